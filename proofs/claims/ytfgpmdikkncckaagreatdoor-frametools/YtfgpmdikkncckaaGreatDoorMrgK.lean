/-
  Vectors as numbers, as plain mathematics: a number's place in the order, how many vectors go ahead of one, that those of one length and as many pulses are told apart by it, in order, and that there is one for each rank. No condition; no program.
  What magnitude, next, goesAhead, Pulses and Before of package rank do, and Size, Place, Pulses and Right of the document's own answers: they compute alone, over lists of numbers that lie anywhere in memory. Nothing is turned.
  What Rank, isThere, first and Unrank of package rank do over a book: a right vector's rank, the vector of a rank that there is; what was needed is noted in the book. Nothing that was there is turned but the book's own block and its map.
  What Unrank of package rank does over a book: the vector of a rank that there is, as a list of the call's own; else nothing. Nothing that was there is turned but the book's own block and its map.
-/
import Derived.Test.YtfgpmdikkncckaaGreatDoorMrgC
import Derived.Test.YtfgpmdikkncckaaGreatDoorIntsAt
import Derived.Test.YtfgpmdikkncckaaGreatDoorLists
import Derived.Deep.DeepCutAuto
import Derived.Deep.OwnRows
namespace Go.Proofs.YtfgpmdikkncckaaGreatDoor
set_option linter.unusedVariables false

/-- A number's place in the order 0, 1, -1, 2, -2, .. -/
def place (x : Int) : Nat := if 0 < x then (2 * x - 1).toNat else (-2 * x).toNat
/-- The number at a place. -/
def num (p : Nat) : Int := if p % 2 = 1 then ((p + 1) / 2 : Nat) else -((p / 2 : Nat) : Int)
theorem num_place (x : Int) : num (place x) = x := by unfold num place; split <;> split <;> omega
theorem place_num (p : Nat) : place (num p) = p := by unfold num place; split <;> split <;> omega
theorem num_abs (p : Nat) : (num p).natAbs = (p + 1) / 2 := by unfold num; split <;> omega
theorem num_zero : num 0 = 0 := rfl
theorem num_pos {p : Nat} (h : 0 < num p) : -num p = num (p + 1) := by unfold num at *; split at h <;> split <;> omega
theorem num_neg {p : Nat} (h : ¬ 0 < num p) : 1 - num p = num (p + 1) := by unfold num at *; split at h <;> split <;> omega
theorem place_inj {x y : Int} (h : place x = place y) : x = y := by rw [← num_place x, h, num_place]
theorem place_half (x : Int) : (place x + 1) / 2 = x.natAbs := by unfold place; split <;> omega
theorem place_le (x : Int) : place x ≤ 2 * x.natAbs := by unfold place; split <;> omega
theorem place_zero : place 0 = 0 := rfl
theorem place_neg {z : Int} (h : 0 < z) : place (-z) = place z + 1 := by unfold place; rw [if_neg (by omega), if_pos h]; omega
theorem place_lt_abs {x y : Int} (h : x.natAbs ≠ y.natAbs) : place x < place y ↔ x.natAbs < y.natAbs := by
  unfold place; split <;> split <;> omega
theorem place_lt_same {x y : Int} (h : x.natAbs = y.natAbs) (hne : x ≠ y) : place x < place y ↔ y < x := by
  unfold place; split <;> split <;> omega

/-- How many pulses a vector has; and as the program counts them. -/
def pul : List Int → Nat
  | [] => 0
  | x :: r => x.natAbs + pul r
def pul1 : List Int → Nat
  | [] => 0
  | x :: r => min x.natAbs 1000 + pul1 r
theorem pul1_le : ∀ r, pul1 r ≤ 1000 * r.length
  | [] => Nat.le_refl _
  | x :: r => by have := pul1_le r; simp only [pul1, List.length_cons]; omega
theorem pul1_is : ∀ r, pul r ≤ 1000 → pul1 r = pul r
  | [], _ => rfl
  | x :: r, h => by simp only [pul] at h; simp only [pul, pul1]; rw [pul1_is r (by omega)]; omega
theorem pul1_more : ∀ r, ¬ pul r ≤ 32 → ¬ pul1 r ≤ 32
  | [], h => h
  | x :: r, h => by
    simp only [pul] at h
    simp only [pul1]
    by_cases h1 : pul r ≤ 32
    · rw [pul1_is r (by omega)]; omega
    · have := pul1_more r h1; omega
theorem pul_app : ∀ r s, pul (r ++ s) = pul r + pul s
  | [], s => by simp [pul]
  | x :: r, s => by simp only [List.cons_append, pul, pul_app r s]; omega
theorem pul_at : ∀ (r : List Int) (i : Nat) (x : Int), r[i]? = some x → x.natAbs ≤ pul r
  | [], i, x, h => by simp at h
  | y :: r, 0, x, h => by simp at h; subst h; simp only [pul]; omega
  | y :: r, i + 1, x, h => by simp at h; have := pul_at r i x h; simp only [pul]; omega
theorem pul_drop : ∀ (r : List Int) (i : Nat) (x : Int), r[i]? = some x → pul (r.drop i) = x.natAbs + pul (r.drop (i + 1))
  | [], i, x, h => by simp at h
  | y :: r, 0, x, h => by simp at h; subst h; simp [pul]
  | y :: r, i + 1, x, h => by simp at h; have := pul_drop r i x h; simpa using this
theorem pul_zero : ∀ r : List Int, pul r = 0 → ∀ (i : Nat) (x : Int), r[i]? = some x → x = 0 := by
  intro r h i x hx
  have := pul_at r i x hx
  omega

/-- How many vectors of n numbers more and k pulses have a first number ahead of place p. -/
def sm (n k : Nat) : Nat → Nat
  | 0 => 0
  | p + 1 => sm n k p + vv n (k - (p + 1) / 2)
theorem chk_sm : all2 16 33 (fun n k => Nat.beq (sm n k (2 * k + 1)) (vv (n + 1) k)) = true := by kernel_rfl
theorem sm_all {n k : Nat} (hn : n < 16) (hk : k ≤ 32) : sm n k (2 * k + 1) = vv (n + 1) k := Nat.eq_of_beq_eq_true (all2_at chk_sm hn (by omega))
theorem sm_mono (n k : Nat) {p q : Nat} (h : p ≤ q) : sm n k p ≤ sm n k q := by
  induction q with
  | zero => obtain rfl : p = 0 := by omega
            exact Nat.le_refl _
  | succ q ih =>
    by_cases e : p = q + 1
    · subst e; exact Nat.le_refl _
    · exact Nat.le_trans (ih (by omega)) (Nat.le_add_right _ _)
theorem sm_place (n k : Nat) (x : Int) : sm n k (place x + 1) = sm n k (place x) + vv n (k - x.natAbs) := by rw [sm, place_half]
theorem sm_le {n k p : Nat} (hn : n < 16) (hk : k ≤ 32) (hp : p ≤ 2 * k + 1) : sm n k p ≤ vv (n + 1) k := by rw [← sm_all hn hk]; exact sm_mono n k hp

/-- A vector's rank. -/
def rk : List Int → Nat → Nat
  | [], _ => 0
  | x :: r, k => sm r.length k (place x) + rk r (k - x.natAbs)
theorem rk_lt : ∀ (r : List Int), r.length ≤ 16 → ∀ k, k ≤ 32 → pul r = k → rk r k < vv r.length k
  | [], _, k, hk, h => by simp only [pul] at h; subst h; show 0 < vv 0 0; decide
  | x :: r, hl, k, hk, h => by
    simp only [List.length_cons] at hl
    simp only [pul] at h
    have h1 := rk_lt r (by omega) (k - x.natAbs) (by omega) (by omega)
    have h2 := sm_place r.length k x
    have h3 := place_le x
    have h4 := sm_le (n := r.length) (k := k) (p := place x + 1) (by omega) hk (by omega)
    simp only [rk, List.length_cons]
    omega
theorem rk_bd (r : List Int) (hl : r.length ≤ 16) (k : Nat) (hk : k ≤ 32) (h : pul r = k) : rk r k ≤ 2460955893981184 :=
  Nat.le_trans (Nat.le_of_lt (rk_lt r hl k hk h)) (vv_bd hl hk)
theorem rk_zeros (r : List Int) (k : Nat) : ∀ m, rk (List.replicate m 0 ++ r) k = rk r k
  | 0 => by simp
  | m + 1 => by
    rw [List.replicate_succ, List.cons_append, rk, place_zero, sm]
    simpa using rk_zeros r k m
theorem pul_zeros (r : List Int) : ∀ m, pul (List.replicate m 0 ++ r) = pul r
  | 0 => by simp
  | m + 1 => by
    rw [List.replicate_succ, List.cons_append, pul]
    simpa using pul_zeros r m

/-- Does a vector go ahead of one that is as long? -/
def bef : List Int → List Int → Bool
  | x :: r, y :: s => if x = y then bef r s else decide (place x < place y)
  | _, _ => false
theorem bef_lt : ∀ (r s : List Int), r.length = s.length → r.length ≤ 16 → ∀ k, k ≤ 32 → pul r = k → pul s = k → (bef r s = true ↔ rk r k < rk s k)
  | [], [], _, _, k, hk, _, _ => by simp [bef, rk]
  | [], y :: s, h, _, _, _, _, _ => by simp at h
  | x :: r, [], h, _, _, _, _, _ => by simp at h
  | x :: r, y :: s, h, hl, k, hk, h1, h2 => by
    simp only [List.length_cons] at h hl
    simp only [pul] at h1 h2
    have hl' : r.length = s.length := by omega
    by_cases e : x = y
    · subst e
      have ih := bef_lt r s (by omega) (by omega) (k - x.natAbs) (by omega) (by omega) (by omega)
      simp only [bef, if_true, rk, hl']
      rw [ih]
      omega
    · simp only [bef, if_neg e, decide_eq_true_iff, rk, hl']
      have key : ∀ {a b : Int} {t u : List Int}, t.length = s.length → u.length = s.length → a.natAbs + pul t = k → b.natAbs + pul u = k → place a < place b → sm s.length k (place a) + rk t (k - a.natAbs) < sm s.length k (place b) + rk u (k - b.natAbs) := by
        intro a b t u ht hu ha hb hab
        have c1 := rk_lt t (by omega) (k - a.natAbs) (by omega) (by omega)
        have c2 := sm_place s.length k a
        have c3 := sm_mono s.length k (p := place a + 1) (q := place b) hab
        rw [ht] at c1
        omega
      constructor
      · exact key hl' rfl h1 h2
      · intro hlt
        by_cases c : place x < place y
        · exact c
        · have hne : place x ≠ place y := fun e' => e (place_inj e')
          have := key (a := y) (b := x) (t := s) (u := r) rfl hl' h2 h1 (by omega)
          omega
theorem bef_any : ∀ (r s : List Int), r.length = s.length → r ≠ s → bef r s = true ∨ bef s r = true
  | [], [], _, h => absurd rfl h
  | [], y :: s, h, _ => by simp at h
  | x :: r, [], h, _ => by simp at h
  | x :: r, y :: s, h, hne => by
    simp only [List.length_cons] at h
    by_cases e : x = y
    · subst e
      simp only [bef, if_true]
      exact bef_any r s (by omega) (fun e => hne (by rw [e]))
    · have e' : ¬ y = x := fun h => e h.symm
      simp only [bef, if_neg e, if_neg e', decide_eq_true_iff]
      have : place x ≠ place y := fun h => e (place_inj h)
      omega
theorem rk_inj {r s : List Int} (hl : r.length = s.length) (hn : r.length ≤ 16) {k : Nat} (hk : k ≤ 32) (h1 : pul r = k) (h2 : pul s = k) (h : rk r k = rk s k) : r = s := by
  by_cases e : r = s
  · exact e
  · rcases bef_any r s hl e with h3 | h3
    · rw [bef_lt r s hl hn k hk h1 h2] at h3; omega
    · rw [bef_lt s r hl.symm (by omega) k hk h2 h1] at h3; omega
theorem bef_same : ∀ r, bef r r = false
  | [] => rfl
  | x :: r => by simp only [bef, if_true]; exact bef_same r
theorem bef_push : ∀ (p q : List Int) (s t : Int), p.length = q.length → bef (p ++ [s]) (q ++ [t]) = if p = q then (if s = t then false else decide (place s < place t)) else bef p q
  | [], [], s, t, _ => by simp [bef]
  | [], y :: q, s, t, h => by simp at h
  | x :: p, [], s, t, h => by simp at h
  | x :: p, y :: q, s, t, h => by
    simp only [List.length_cons] at h
    have ih := bef_push p q s t (by omega)
    by_cases e : x = y
    · subst e
      simp only [List.cons_append, bef, if_true, ih]
      by_cases e2 : p = q
      · subst e2; simp
      · simp [e2]
    · simp [bef, e]

/-- The place of the first number of the vector of a rank. -/
theorem first_at {n k : Nat} (hn : n < 16) (hk : k ≤ 32) {i p : Nat} (hi : i < vv (n + 1) k) (hp : sm n k p ≤ i) : p ≤ 2 * k := by
  by_cases h : p ≤ 2 * k
  · exact h
  · have := sm_mono n k (p := 2 * k + 1) (q := p) (by omega)
    rw [sm_all hn hk] at this
    omega

theorem vI_sub {n k h : Nat} (hn : n ≤ 16) (hk : k ≤ 32) (hh : h ≤ k) : vI (n : Int) ((k : Int) - (h : Int)) = vv n (k - h) := by
  unfold vI
  rw [if_pos (by omega)]
  congr 1
  omega
theorem vI_nat {n k : Nat} (hn : n ≤ 16) (hk : k ≤ 32) : vI (n : Int) (k : Int) = vv n k := by
  unfold vI
  rw [if_pos (by omega)]
  rfl
theorem vI_in {n k : Int} {i : Nat} (h : i < vI n k) : 0 ≤ n ∧ n ≤ 16 ∧ 0 ≤ k ∧ k ≤ 32 := by
  unfold vI at h
  split at h
  · assumption
  · omega

/-- The document's sum over magnitudes: the places of 0 to m - 1, both signs, that are ahead of place P. -/
theorem ref_both (n k P m : Nat) : sm n k (min P (2 * (m + 1) - 1)) = sm n k (min P (2 * m - 1)) + (if place m < P then vv n (k - m) else 0) + (if 0 < m ∧ place (-(m : Int)) < P then vv n (k - m) else 0) := by
  by_cases m0 : m = 0
  · subst m0
    have e : place ((0 : Nat) : Int) = 0 := rfl
    rw [e]
    by_cases hP : 0 < P
    · rw [if_pos hP, if_neg (by omega), show min P (2 * (0 + 1) - 1) = 1 by omega, show min P (2 * 0 - 1) = 0 by omega]
      simp [sm]
    · rw [if_neg hP, if_neg (by omega), show min P (2 * (0 + 1) - 1) = 0 by omega, show min P (2 * 0 - 1) = 0 by omega]
      rfl
  · have e1 : place (m : Int) = 2 * m - 1 := by unfold place; split <;> omega
    have e2 : place (-(m : Int)) = 2 * m := by unfold place; split <;> omega
    have s1 : sm n k (2 * m) = sm n k (2 * m - 1) + vv n (k - m) := by
      have : 2 * m = (2 * m - 1) + 1 := by omega
      rw [this, sm]
      congr 2
      omega
    have s2 : sm n k (2 * m + 1) = sm n k (2 * m) + vv n (k - m) := by
      rw [sm]
      congr 2
      omega
    rw [e1, e2]
    by_cases h1 : 2 * m - 1 < P
    · by_cases h2 : 2 * m < P
      · rw [if_pos h1, if_pos ⟨by omega, h2⟩, show min P (2 * (m + 1) - 1) = 2 * m + 1 by omega, show min P (2 * m - 1) = 2 * m - 1 by omega, s2, s1]
      · rw [if_pos h1, if_neg (by omega), show min P (2 * (m + 1) - 1) = 2 * m by omega, show min P (2 * m - 1) = 2 * m - 1 by omega, s1]
        rfl
    · rw [if_neg h1, if_neg (by omega), show min P (2 * (m + 1) - 1) = P by omega, show min P (2 * m - 1) = P by omega]
      rfl

/-- All vectors, in order, are those of the ranks from 0 on. -/
def chkL (n k : Nat) : Nat → List (List Int) → Bool
  | _, [] => true
  | i, r :: l => Nat.beq r.length n && Nat.beq (pul r) k && Nat.beq (rk r k) i && chkL n k (i + 1) l
theorem chk_all : all2 5 6 (fun n k => chkL n k 0 (allL n k)) = true := by kernel_rfl
theorem chkL_at {n k : Nat} : ∀ (l : List (List Int)) (i : Nat), chkL n k i l = true → ∀ (j : Nat) (r : List Int), l[j]? = some r → r.length = n ∧ pul r = k ∧ rk r k = i + j
  | [], i, _, j, r, h => by simp at h
  | s :: l, i, hc, j, r, h => by
    simp only [chkL, Bool.and_eq_true] at hc
    obtain ⟨⟨⟨c1, c2⟩, c3⟩, c4⟩ := hc
    cases j with
    | zero =>
      simp at h
      subst h
      exact ⟨Nat.eq_of_beq_eq_true c1, Nat.eq_of_beq_eq_true c2, Nat.eq_of_beq_eq_true c3⟩
    | succ j =>
      simp at h
      obtain ⟨a, b, c⟩ := chkL_at l (i + 1) c4 j r h
      exact ⟨a, b, by omega⟩
theorem all_rank {n k : Nat} (hn : n < 5) (hk : k < 6) {i : Nat} {r : List Int} (h : (allL n k)[i]? = some r) : r.length = n ∧ pul r = k ∧ rk r k = i := by
  have := chkL_at (allL n k) 0 (all2_at chk_all hn hk) i r h
  simpa using this

/-- A vector whose first number that isn't 0 is turned. -/
theorem turn_rank (m : Nat) (z : Int) (t : List Int) (k : Nat) (hz : 0 < z) : rk (List.replicate m 0 ++ (-z) :: t) k = rk (List.replicate m 0 ++ z :: t) k + vv t.length (k - z.natAbs) := by
  rw [rk_zeros, rk_zeros, rk, rk, place_neg hz, sm_place]
  have : (-z).natAbs = z.natAbs := by omega
  rw [this]
  omega
theorem turn_pul (m : Nat) (z : Int) (t : List Int) : pul (List.replicate m 0 ++ (-z) :: t) = pul (List.replicate m 0 ++ z :: t) := by
  rw [pul_zeros, pul_zeros, pul, pul]
  omega
theorem zeros_split : ∀ (r : List Int) (m : Nat) (z : Int), (∀ j, j < m → r[j]? = some 0) → r[m]? = some z → r = List.replicate m 0 ++ z :: r.drop (m + 1)
  | [], m, z, _, h => by simp at h
  | x :: r, 0, z, _, h => by simp at h; subst h; simp
  | x :: r, m + 1, z, hz, h => by
    have h0 := hz 0 (by omega)
    simp at h0 h
    subst h0
    have ih := zeros_split r m z (fun j hj => by have := hz (j + 1) (by omega); simpa using this) h
    rw [List.replicate_succ, List.cons_append]
    congr 1
theorem zeros_set (m : Nat) (z y : Int) (t : List Int) : (List.replicate m 0 ++ z :: t).set m y = List.replicate m 0 ++ y :: t := by
  rw [List.set_append_right _ _ (by simp)]
  simp
end Go.Proofs.YtfgpmdikkncckaaGreatDoor
namespace Go.Proofs.YtfgpmdikkncckaaGreatDoor
set_option linter.unusedVariables false
open Go.ChangeShapes Go.WideShapes Go.ChangeAt Go.RowKit

/-- A list of numbers lies at this address (where there is one of them at all). -/
def LAt (w : World) (ao : Option Addr) (r : List Int) : Prop :=
  ∀ (i : Nat) (x : Int), r[i]? = some x → ∃ b off, ao = some ⟨b, off, none⟩ ∧ w.cell? ⟨b, off + i, none⟩ = some (.int .i64 x)
/-- Its numbers are numbers of 64 bits. -/
def WfL (r : List Int) : Prop := ∀ (i : Nat) (x : Int), r[i]? = some x → -9223372036854775808 ≤ x ∧ x ≤ 9223372036854775807

section
variable {w w' : World} {ao : Option Addr} {r : List Int}
theorem LAt.below (h : LAt w ao r) (hb : Below w.heap.size w w') : LAt w' ao r := by
  intro i x hx
  obtain ⟨b, off, e, c⟩ := h i x hx
  exact ⟨b, off, e, by rw [hb.cell (block_lt_of_cell c)]; exact c⟩
theorem LAt.grown (h : LAt w ao r) (hg : w.grownBy w' none) : LAt w' ao r := h.below (gN_below hg)
theorem LAt.alloc (h : LAt w ao r) (o : Obj) : LAt (w.alloc o) ao r := h.grown (World.grownBy_alloc w o none)
theorem LAt.drew (h : LAt w ao r) : LAt w.drew ao r := h
theorem cell_gb {b : Nat} {mo mo' : Option Nat} {S : Int → Int → Bool} (hB : BkAt w b mo S) (hG : Gb w w' b mo mo') {a : Addr} {k : IntKind} {x : Int} (hc : w.cell? a = some (.int k x)) : w'.cell? a = some (.int k x) := by
  have hlt := block_lt_of_cell hc
  have hne : a.block ≠ b := by
    intro e
    have h0 := hB.1
    rw [← e] at h0
    unfold World.cell? at hc
    rw [h0] at hc
    simp only at hc
    split at hc
    · cases hc
    · match h1 : a.off with
      | 0 => rw [h1] at hc; simp at hc
      | o + 1 => rw [h1] at hc; simp at hc
  have hm : some a.block ≠ mo := by
    cases hb : w.heap[a.block]? with
    | none => unfold World.cell? at hc; rw [hb] at hc; cases hc
    | some o =>
      cases o with
      | cells c t z => exact hB.apart hb
      | _ => unfold World.cell? at hc; rw [hb] at hc; cases hc
  rw [World.cell?_of_block (hG.block a.block hlt hne hm)]
  exact hc
theorem LAt.gb {b : Nat} {mo mo' : Option Nat} {S : Int → Int → Bool} (h : LAt w ao r) (hB : BkAt w b mo S) (hG : Gb w w' b mo mo') : LAt w' ao r := by
  intro i x hx
  obtain ⟨bl, off, e, c⟩ := h i x hx
  exact ⟨bl, off, e, cell_gb hB hG c⟩
theorem LAt.tail {b off : Nat} {x : Int} (h : LAt w (some ⟨b, off, none⟩) (x :: r)) : LAt w (some ⟨b, off + 1, none⟩) r := by
  intro i y hy
  obtain ⟨b', off', e, c⟩ := h (i + 1) y (by simpa using hy)
  cases e
  exact ⟨b, off + 1, rfl, by rw [show off + 1 + i = off + (i + 1) by omega]; exact c⟩
theorem LAt.new (w : World) (x : Int) (t : TypeId) : LAt (w.alloc (.cells #[.int .i64 x] t)) (some ⟨w.heap.size, 0, none⟩) [x] := by
  intro i y hy
  match i with
  | 0 =>
    simp at hy
    subst hy
    exact ⟨_, _, rfl, cell_of_row _ _ 0 _ _ _ (heap_alloc_new _ _)⟩
  | i + 1 => simp at hy
theorem LAt.of_ints {n : Nat} {f : Nat → Int} (h : IntsAt w ao n .i64 f) : LAt w ao ((List.range n).map f) := by
  intro i x hx
  have hi : i < n := by have := (List.getElem?_eq_some_iff.1 hx).1; simpa using this
  simp [hi] at hx
  subst hx
  exact h i hi
theorem OwnL.lat {B n cap : Nat} (h : OwnL w B (.slice ao n cap) r) : LAt w ao r := by
  intro i x hx
  have hl : 0 < r.length := by have := (List.getElem?_eq_some_iff.1 hx).1; omega
  obtain ⟨g, c, e, _⟩ := h.form hl
  cases e
  exact ⟨g, 0, rfl, by rw [Nat.zero_add]; exact h.cell hx⟩
theorem WfL.tail {x : Int} (h : WfL (x :: r)) : WfL r := fun i y hy => h (i + 1) y (by simpa using hy)
theorem WfL.pul (h : pul r ≤ 1000) : WfL r := fun i x hx => by have := pul_at r i x hx; omega
end

theorem neg_u64 {x : Int} (hx : x < 0) (h0 : -9223372036854775808 ≤ x) : IntKind.u64.wrap (-IntKind.u64.wrap x) = -x := by
  simp only [IntKind.wrap, IntKind.bits, IntKind.signed]
  simp
  omega
theorem mag_any (w : World) (x : Int) (h0 : -9223372036854775808 ≤ x) (h1 : x ≤ 9223372036854775807) : Calls Tryz.prog 159 #[.int .i64 x] w fun e w' => e = .returned (.int .u64 (x.natAbs : Nat)) ∧ w' = w := by
  by_cases hx : x < 0
  · have e : (x.natAbs : Int) = -x := by omega
    rw [e]
    go_enter Tryz.func159, Tryz.ntmps159
    go_wp2
    go_returns
    exact ⟨congrArg (fun z => Ending.returned (.int .u64 z)) (neg_u64 hx h0), rfl⟩
  · have e : (x.natAbs : Int) = x := by omega
    rw [e]
    go_enter Tryz.func159, Tryz.ntmps159
    go_wp2
    go_returns
    exact ⟨by go_num, rfl⟩

theorem next_any (w : World) (p : Nat) (hp : p ≤ 100) : Calls Tryz.prog 154 #[.int .i64 (num p)] w fun e w' => e = .returned (.int .i64 (num (p + 1))) ∧ w' = w := by
  have hb : (num p).natAbs ≤ 50 := by rw [num_abs]; omega
  by_cases h : 0 < num p
  · rw [← num_pos h]
    obtain ⟨x, hx⟩ : ∃ x, num p = x := ⟨_, rfl⟩
    rw [hx] at h hb ⊢
    clear hx
    go_enter Tryz.func154, Tryz.ntmps154
    go_wp2
    go_returns
    exact ⟨rfl, rfl⟩
  · rw [← num_neg h]
    obtain ⟨x, hx⟩ : ∃ x, num p = x := ⟨_, rfl⟩
    rw [hx] at h hb ⊢
    clear hx
    go_enter Tryz.func154, Tryz.ntmps154
    go_wp2
    go_returns
    exact ⟨rfl, rfl⟩

theorem pul1_take : ∀ (r : List Int) (q : Nat) (x : Int), r[q]? = some x → pul1 (r.take (q + 1)) = pul1 (r.take q) + min x.natAbs 1000
  | [], q, x, h => by simp at h
  | y :: r, 0, x, h => by simp at h; subst h; simp [pul1]
  | y :: r, q + 1, x, h => by simp at h; have := pul1_take r q x h; simp only [List.take_succ_cons, pul1] at this ⊢; omega
theorem pul_take : ∀ (r : List Int) (q : Nat) (x : Int), r[q]? = some x → pul (r.take (q + 1)) = pul (r.take q) + x.natAbs
  | [], q, x, h => by simp at h
  | y :: r, 0, x, h => by simp at h; subst h; simp [pul]
  | y :: r, q + 1, x, h => by simp at h; have := pul_take r q x h; simp only [List.take_succ_cons, pul] at this ⊢; omega


set_option maxHeartbeats 1000000 in
theorem pulses_calls (w : World) (ao : Option Addr) (n cap : Nat) (r : List Int) (hn : n ≤ 999) (hc : n ≤ cap) (hc2 : cap ≤ 9223372036854775807) (hr : Hid (r.length = n)) (hw : Hid (WfL r)) (h : Hid (LAt w ao r)) :
    Calls Tryz.prog 153 #[.slice ao n cap] w fun e w' => e = .returned (.int .i64 (pul1 r : Nat)) ∧ w' = w := by
  have hn' : (n : Int) < 1000 := by omega
  clear hn
  go_enter Tryz.func153, Tryz.ntmps153
  go_wp2
  go_loopw [3, 12] (fun s i wr => w = wr ∧ ∃ q : Nat, q ≤ n ∧ i = .int .i64 q ∧ ∃ s0 : Nat, pul1 (r.take q) = s0 ∧ s = .int .i64 s0) (fun _ i _ => n - (intOf i).toNat)
  case atStart => exact ⟨rfl, 0, by omega, rfl, 0, rfl, rfl⟩
  case round =>
    obtain ⟨rfl, q, hq, rfl, s0, hs0, rfl⟩ := hrel
    by_cases hlt : q < n
    · have hlt' : (q : Int) < (n : Int) := by omega
      obtain ⟨x, hx⟩ : ∃ x, r[q]? = some x := ⟨_, List.getElem?_eq_getElem (by rw [hr.out]; exact hlt)⟩
      obtain ⟨bl, off, rfl, c0⟩ := h.out q x hx
      obtain ⟨x0, x1⟩ := hw.out q x hx
      have HT : Hid _ := pul1_take r q x hx
      have hbd : s0 ≤ 1000 * q := by have := pul1_le (r.take q); rw [hs0, List.length_take] at this; omega
      have HS : Hid (pul1 (r.take q) = s0) := hs0
      obtain ⟨a, ha⟩ : ∃ a, x.natAbs = a := ⟨_, rfl⟩
      have HA : Hid (x.natAbs = a) := ha
      have ha1 : a ≤ 9223372036854775808 := by omega
      clear ha hs0 hx
      by_cases ha2 : a < 1000
      · have ha3 : (a : Int) < 1000 := by omega
        go_wp2_with (go_at_call 159; refine (mag_any _ x x0 x1).mono ?_; rw [HA.out]; rintro e w1 ⟨rfl, hw⟩; obtain rfl := hw.symm)
        go_roundw
        case rel => exact ⟨trivial, q + 1, by omega, by go_num, s0 + a, by rw [HT.out, HS.out, HA.out]; omega, by go_num⟩
        case measure => simp [intOf]; omega
      · have ha3 : ¬ (a : Int) < 1000 := by omega
        go_wp2_with (go_at_call 159; refine (mag_any _ x x0 x1).mono ?_; rw [HA.out]; rintro e w1 ⟨rfl, hw⟩; obtain rfl := hw.symm)
        go_roundw
        case rel => exact ⟨trivial, q + 1, by omega, by go_num, s0 + 1000, by rw [HT.out, HS.out, HA.out]; omega, by go_num⟩
        case measure => simp [intOf]; omega
    · obtain rfl : q = n := by omega
      rw [List.take_of_length_le (by rw [hr.out]; exact Nat.le_refl _)] at hs0
      have HS : Hid (pul1 r = s0) := hs0
      clear hs0
      go_wp2
      go_returns
      exact ⟨by rw [HS.out]; rfl, rfl⟩
/-- .. of a right vector: the sum of its magnitudes. -/
theorem pulses_right (w : World) (ao : Option Addr) (n cap : Nat) (r : List Int) (hn : n ≤ 16) (hc : n ≤ cap) (hc2 : cap ≤ 9223372036854775807) (hr : Hid (r.length = n)) (k : Nat) (hp : pul r = k) (hk : k ≤ 1000) (h : Hid (LAt w ao r)) :
    Calls Tryz.prog 153 #[.slice ao n cap] w fun e w' => e = .returned (.int .i64 k) ∧ w' = w := by
  have := pulses_calls w ao n cap r (by omega) hc hc2 hr (WfL.pul (by omega)) h
  rw [pul1_is r (by omega), hp] at this
  exact this
/-- .. of one number. -/
theorem pulses_one (w : World) (x : Int) (t : TypeId) (k : Nat) (hp : x.natAbs = k) (hk : k ≤ 1000) : Calls Tryz.prog 153 #[.slice (some ⟨w.heap.size, 0, none⟩) 1 1] (w.alloc (.cells #[.int .i64 x] t)) fun e w' => e = .returned (.int .i64 k) ∧ w' = w.alloc (.cells #[.int .i64 x] t) :=
  pulses_right _ _ 1 1 [x] (by omega) (by omega) (by omega) rfl k (by simpa [pul] using hp) hk (LAt.new w x t)

theorem size_any (w : World) (x : Int) (h : x.natAbs ≤ 1000) : Calls Tryz.prog 53 #[.int .i64 x] w fun e w' => e = .returned (.int .i64 (x.natAbs : Nat)) ∧ w' = w := by
  by_cases hx : x < 0
  · have e : (x.natAbs : Int) = -x := by omega
    rw [e]
    go_enter Tryz.func53, Tryz.ntmps53
    go_wp2
    go_returns
    exact ⟨rfl, rfl⟩
  · have e : (x.natAbs : Int) = x := by omega
    rw [e]
    go_enter Tryz.func53, Tryz.ntmps53
    go_wp2
    go_returns
    exact ⟨rfl, rfl⟩
theorem place_any (w : World) (x : Int) (h : x.natAbs ≤ 1000) : Calls Tryz.prog 81 #[.int .i64 x] w fun e w' => e = .returned (.int .i64 (place x : Nat)) ∧ w' = w := by
  by_cases hx : 0 < x
  · have e : (place x : Int) = 2 * x - 1 := by unfold place; rw [if_pos hx]; omega
    rw [e]
    go_enter Tryz.func81, Tryz.ntmps81
    go_wp2
    go_returns
    exact ⟨by go_num, rfl⟩
  · have e : (place x : Int) = -2 * x := by unfold place; rw [if_neg hx]; omega
    rw [e]
    go_enter Tryz.func81, Tryz.ntmps81
    go_wp2
    go_returns
    exact ⟨by go_num, rfl⟩

set_option maxHeartbeats 1000000 in
/-- The document's Pulses. -/
theorem rpul_any (w : World) (ao : Option Addr) (n cap : Nat) (r : List Int) (hn : n ≤ 16) (hr : Hid (r.length = n)) (k : Nat) (hp : Hid (pul r = k)) (hk : k ≤ 32) (h : Hid (LAt w ao r)) :
    Calls Tryz.prog 24 #[.slice ao n cap] w fun e w' => e = .returned (.int .i64 k) ∧ w' = w := by
  go_enter Tryz.func24, Tryz.ntmps24
  go_wp2
  go_loopw [3, 4] (fun s i wr => w = wr ∧ ∃ q : Nat, q ≤ n ∧ i = .int .i64 q ∧ ∃ s0 : Nat, Hid (pul (r.take q) = s0) ∧ s0 ≤ 1000 * q ∧ s = .int .i64 s0) (fun _ i _ => n - (intOf i).toNat)
  case atStart => exact ⟨rfl, 0, by omega, rfl, 0, rfl, by omega, rfl⟩
  case round =>
    obtain ⟨rfl, q, hq, rfl, s0, HS, hbd, rfl⟩ := hrel
    by_cases hlt : q < n
    · have hlt' : (q : Int) < (n : Int) := by omega
      obtain ⟨x, hx⟩ : ∃ x, r[q]? = some x := ⟨_, List.getElem?_eq_getElem (by rw [hr.out]; exact hlt)⟩
      obtain ⟨bl, off, rfl, c0⟩ := h.out q x hx
      have HT : Hid _ := pul_take r q x hx
      obtain ⟨a, ha⟩ : ∃ a, x.natAbs = a := ⟨_, rfl⟩
      have HA : Hid (x.natAbs = a) := ha
      have ha1 : a ≤ 32 := by have := pul_at r q x hx; rw [hp.out] at this; omega
      clear hx
      go_wp2_with (go_at_call 53; refine (size_any _ x (by omega)).mono ?_; rw [HA.out]; rintro e w1 ⟨rfl, hw⟩; obtain rfl := hw.symm)
      go_roundw
      case rel => exact ⟨trivial, q + 1, by omega, by go_num, s0 + a, by show pul _ = _; rw [HT.out, HS.out, HA.out], by omega, by go_num⟩
      case measure => simp [intOf]; omega
    · obtain rfl : q = n := by omega
      have HE : Hid (s0 = k) := by show s0 = k; rw [← HS.out, List.take_of_length_le (by rw [hr.out]; exact Nat.le_refl _), hp.out]
      go_wp2
      go_returns
      exact ⟨by rw [HE.out]; rfl, rfl⟩

/-- The document's Right. -/
def rightB (r : List Int) : Bool := decide (r.length ≤ 16 ∧ pul r ≤ 32)
theorem right_long (w : World) (ao : Option Addr) (n cap : Nat) (hn : 16 < n) (hn2 : n ≤ 60) : Calls Tryz.prog 54 #[.slice ao n cap] w fun e w' => e = .returned (.bool false) ∧ w' = w := by
  have hn' : (16 : Int) < n := by omega
  go_enter Tryz.func54, Tryz.ntmps54
  go_wp2
  go_returns
  exact ⟨rfl, rfl⟩
set_option maxHeartbeats 1000000 in
theorem right_short (w : World) (ao : Option Addr) (n cap : Nat) (r : List Int) (hn : n ≤ 16) (hr : Hid (r.length = n)) (hw : Hid (WfL r)) (h : Hid (LAt w ao r)) :
    Calls Tryz.prog 54 #[.slice ao n cap] w fun e w' => e = .returned (.bool (decide (pul r ≤ 32))) ∧ w' = w := by
  have hn' : ¬ (16 : Int) < n := by omega
  go_enter Tryz.func54, Tryz.ntmps54
  go_wp2
  go_loopw [3, 4] (fun s i wr => w = wr ∧ ∃ q : Nat, q ≤ n ∧ i = .int .i64 q ∧ ∃ s0 : Nat, Hid (pul (r.take q) = s0) ∧ s0 ≤ 1000 * q ∧ s = .int .i64 s0) (fun _ i _ => n - (intOf i).toNat)
  case atStart => exact ⟨rfl, 0, by omega, rfl, 0, rfl, by omega, rfl⟩
  case round =>
    obtain ⟨rfl, q, hq, rfl, s0, HS, hbd, rfl⟩ := hrel
    by_cases hlt : q < n
    · have hlt' : (q : Int) < (n : Int) := by omega
      obtain ⟨x, hx⟩ : ∃ x, r[q]? = some x := ⟨_, List.getElem?_eq_getElem (by rw [hr.out]; exact hlt)⟩
      obtain ⟨bl, off, rfl, c0⟩ := h.out q x hx
      have HT : Hid _ := pul_take r q x hx
      have HP : Hid (x.natAbs ≤ pul r) := pul_at r q x hx
      obtain ⟨x0, x1⟩ := hw.out q x hx
      clear hx
      by_cases h1 : 32 < x
      · go_wp2
        go_returns
        exact ⟨by rw [decide_eq_false (by have := HP.out; omega)]; rfl, rfl⟩
      · by_cases h2 : x < -32
        · go_wp2
          go_returns
          exact ⟨by rw [decide_eq_false (by have := HP.out; omega)]; rfl, rfl⟩
        · obtain ⟨a, ha⟩ : ∃ a, x.natAbs = a := ⟨_, rfl⟩
          have HA : Hid (x.natAbs = a) := ha
          have ha1 : a ≤ 32 := by omega
          have h3 : decide (x < -32) = false := decide_eq_false h2
          go_wp2_with (go_at_call 53; refine (size_any _ x (by omega)).mono ?_; rw [HA.out]; rintro e w1 ⟨rfl, hw⟩; obtain rfl := hw.symm)
          go_roundw
          case rel => exact ⟨trivial, q + 1, by omega, by go_num, s0 + a, by show pul _ = _; rw [HT.out, HS.out, HA.out], by omega, by go_num⟩
          case measure => simp [intOf]; omega
    · obtain rfl : q = n := by omega
      have HE : Hid (pul r = s0) := by show pul r = s0; rw [← HS.out, List.take_of_length_le (by rw [hr.out]; exact Nat.le_refl _)]
      go_wp2
      go_returns
      exact ⟨by rw [HE.out, show decide (s0 ≤ 32) = decide ((s0 : Int) ≤ 32) from decide_eq_decide.2 (by omega)]; rfl, rfl⟩

theorem bef_drop : ∀ (r s : List Int) (q : Nat), r.length = s.length → r.take q = s.take q → bef r s = bef (r.drop q) (s.drop q)
  | r, s, 0, _, _ => by simp
  | [], s, q + 1, hl, _ => by
    have : s = [] := List.length_eq_zero_iff.1 (by simpa using hl.symm)
    subst this
    simp
  | x :: r, [], q + 1, hl, _ => by simp at hl
  | x :: r, y :: s, q + 1, hl, h => by
    simp only [List.length_cons] at hl
    simp only [List.take_succ_cons, List.cons.injEq] at h
    obtain ⟨rfl, h⟩ := h
    simp only [bef, if_true, List.drop_succ_cons]
    exact bef_drop r s q (by omega) h
theorem drop_at {r : List Int} {q : Nat} {x : Int} (h : r[q]? = some x) : r.drop q = x :: r.drop (q + 1) := by
  obtain ⟨hl, e⟩ := List.getElem?_eq_some_iff.1 h
  rw [List.drop_eq_getElem_cons hl, e]
theorem take_at {r : List Int} {q : Nat} {x : Int} (h : r[q]? = some x) : r.take (q + 1) = r.take q ++ [x] := by
  rw [List.take_add_one, h]; rfl
end Go.Proofs.YtfgpmdikkncckaaGreatDoor
namespace Go.Proofs.YtfgpmdikkncckaaGreatDoor
set_option linter.unusedVariables false
open Go.ChangeShapes Go.WideShapes Go.ChangeAt Go.RowKit

/-- A book at b, whatever is noted in it; and what a call on it turns. -/
def Bk (w : World) (b : Nat) (mo : Option Nat) : Prop := ∃ S, Ok S ∧ BkAt w b mo S

theorem Bk.lat {w w' : World} {b : Nat} {mo mo' : Option Nat} {ao : Option Addr} {r : List Int} (hB : Bk w b mo) (hG : Gb w w' b mo mo') (h : LAt w ao r) : LAt w' ao r := by
  obtain ⟨S, _, hB⟩ := hB
  exact h.gb hB hG
theorem Bk.alloc {w : World} {b : Nat} {mo : Option Nat} (h : Bk w b mo) (o : Obj) : Bk (w.alloc o) b mo := by
  obtain ⟨S, h1, h2⟩ := h
  exact ⟨S, h1, h2.alloc o⟩
theorem Bk.lt {w : World} {b : Nat} {mo : Option Nat} (h : Bk w b mo) : b < w.heap.size := by
  obtain ⟨S, h1, h2⟩ := h
  exact h2.lt
theorem Bk.keep {w w' : World} {b : Nat} {mo : Option Nat} (h : Bk w b mo) (hg : w.grownBy w' none) : Bk w' b mo := by
  obtain ⟨S, h1, h2⟩ := h
  exact ⟨S, h1, h2.keep hg⟩
theorem Bk.drewN {w : World} {b : Nat} {mo : Option Nat} (h : Bk w b mo) (d : Nat) : Bk (w.drewN d) b mo := h
theorem vb_calls (w : World) (b : Nat) (mo : Option Nat) (n k : Int) (h : Hid (Bk w b mo)) :
    Calls Tryz.prog 138 #[.pointer (some ⟨b, 0, none⟩), .int .i64 n, .int .i64 k] w fun e w' => e = .returned (.int .u64 (vI n k : Nat)) ∧ ∃ mo', Bk w' b mo' ∧ Gb w w' b mo mo' := by
  obtain ⟨S, hO, hB⟩ := h.out
  refine (v_calls w b mo S n k hB hO).mono ?_
  rintro e w' ⟨rfl, mo', hB', hG'⟩
  exact ⟨rfl, mo', ⟨_, hO.un _ _, hB'⟩, hG'⟩
theorem newb_calls (w : World) : Calls Tryz.prog 34 #[] w fun e w' => ∃ b, e = .returned (.pointer (some ⟨b, 0, none⟩)) ∧ Bk w' b none ∧ Below w.heap.size w w' ∧ w.heap.size ≤ b := by
  refine (new_calls w).mono ?_
  rintro e w' ⟨b, rfl, h1, h2, h3⟩
  exact ⟨b, rfl, ⟨_, Ok.no, h1⟩, h2, h3⟩

/-- Rank of what is no right vector. -/
theorem rank_bad (w : World) (b : Nat) (ao : Option Addr) (n cap : Nat) (r : List Int) (hn : n ≤ 60) (hc : n ≤ cap) (hc2 : cap ≤ 9223372036854775807) (hr : Hid (r.length = n)) (hw : Hid (WfL r)) (h : Hid (LAt w ao r)) (hbad : 16 < n ∨ ¬ pul r ≤ 32) :
    Calls Tryz.prog 147 #[.pointer (some ⟨b, 0, none⟩), .slice ao n cap] w fun e w' => e = .returned (.tuple #[.int .u64 0, .int .i64 2]) ∧ w' = w := by
  have hb := pul1_le r
  rw [hr.out] at hb
  obtain ⟨k, hk⟩ : ∃ k, pul1 r = k := ⟨_, rfl⟩
  have HK : Hid (pul1 r = k) := hk
  rw [hk] at hb
  by_cases h16 : 16 < n
  · have h16' : (16 : Int) < n := by omega
    clear hbad hk
    go_enter Tryz.func147, Tryz.ntmps147
    go_wp2_with (go_at_call 153; refine (pulses_calls _ _ n cap r (by omega) hc hc2 hr hw h).mono ?_; rw [HK.out]; rintro e w1 ⟨rfl, hw1⟩; obtain rfl := hw1.symm; clear hw1)
    go_returns
    exact ⟨rfl, rfl⟩
  · have h16' : ¬ (16 : Int) < n := by omega
    have hk2 : ¬ k ≤ 32 := by rw [← hk]; exact pul1_more r (by omega)
    have hk3 : (32 : Int) < k := by omega
    have hk4 : decide (32 < k) = true := decide_eq_true (by omega)
    clear hbad hk
    go_enter Tryz.func147, Tryz.ntmps147
    go_wp2_with (go_at_call 153; refine (pulses_calls _ _ n cap r (by omega) hc hc2 hr hw h).mono ?_; rw [HK.out]; rintro e w1 ⟨rfl, hw1⟩; obtain rfl := hw1.symm; clear hw1)
    go_returns
    exact ⟨rfl, rfl⟩

theorem rk_drop {r : List Int} {q : Nat} {x : Int} (h : r[q]? = some x) (k : Nat) : rk (r.drop q) k = sm (r.length - q - 1) k (place x) + rk (r.drop (q + 1)) (k - x.natAbs) := by
  have hl := (List.getElem?_eq_some_iff.1 h).1
  rw [drop_at h, rk, List.length_drop]
  rw [show r.length - (q + 1) = r.length - q - 1 by omega]

set_option maxHeartbeats 2000000 in
/-- Rank of a right vector. -/
theorem rank_good (w : World) (b : Nat) (mo : Option Nat) (ao : Option Addr) (n cap : Nat) (r : List Int) (hn : n ≤ 16) (hc : n ≤ cap) (hc2 : cap ≤ 9223372036854775807) (hr : Hid (r.length = n)) (k : Nat) (hk : k ≤ 32) (hp : Hid (pul r = k)) (h : Hid (LAt w ao r)) (hB : Hid (Bk w b mo)) :
    Calls Tryz.prog 147 #[.pointer (some ⟨b, 0, none⟩), .slice ao n cap] w fun e w' => e = .returned (.tuple #[.int .u64 (rk r k : Nat), .int .i64 0]) ∧ ∃ mo', Bk w' b mo' ∧ Gb w w' b mo mo' := by
  have hn' : ¬ (16 : Int) < n := by omega
  have hk' : ¬ (32 : Int) < k := by omega
  have hkd : decide (32 < k) = false := decide_eq_false (by omega)
  go_enter Tryz.func147, Tryz.ntmps147
  go_wp2_with (go_at_call 153; refine (pulses_right _ _ n cap r hn hc hc2 hr k hp.out (by omega) h).mono ?_; rintro e w1 ⟨rfl, hw1⟩; obtain rfl := hw1.symm; clear hw1)
  go_loopw [6, 7, 23] (fun kk s i wr => ∃ q j s0 : Nat, q ≤ n ∧ j ≤ 32 ∧ kk = .int .i64 j ∧ i = .int .i64 q ∧ s = .int .u64 s0 ∧ s0 ≤ 2460955893981184 ∧ Hid (pul (r.drop q) = j) ∧ Hid (s0 + rk (r.drop q) j = rk r k) ∧ Hid (∃ mo', Bk wr b mo' ∧ Gb w wr b mo mo')) (fun _ _ i _ => n - (intOf i).toNat)
  case atStart => exact ⟨0, k, 0, by omega, hk, rfl, rfl, rfl, by omega, hp, by show 0 + rk (r.drop 0) k = rk r k; simp, mo, hB.out, Gb.refl _ _ _⟩
  case round =>
    obtain ⟨q, j, s0, hq, hj, rfl, rfl, rfl, hs0, HJ, HS, HW⟩ := hrel
    by_cases hlt : q < n
    · have hlt' : (q : Int) < (n : Int) := by omega
      obtain ⟨x, hx⟩ : ∃ x, r[q]? = some x := ⟨_, List.getElem?_eq_getElem (by rw [hr.out]; exact hlt)⟩
      obtain ⟨mo1, hB1, hG1⟩ := HW.out
      have HB1 : Hid (Bk wr b mo1) := hB1
      have HG1 : Hid (Gb w wr b mo mo1) := hG1
      obtain ⟨bl, off, rfl, c0⟩ := (hB.out.lat hG1 h.out) q x hx
      have HX : Hid (r[q]? = some x) := hx
      have hxj : x.natAbs ≤ j := by have := pul_drop r q x hx; rw [HJ.out] at this; omega
      have HSX : Hid _ := rk_drop hx j
      have HPD : Hid _ := pul_drop r q x hx
      clear hB1 hG1 HW hx
      obtain ⟨P, hP⟩ : ∃ P, place x = P := ⟨_, rfl⟩
      have HP : Hid (place x = P) := hP
      have hPb : P ≤ 2 * j := by have := place_le x; omega
      have HNP : Hid (num P = x) := by show num P = x; rw [← hP, num_place]
      have hm15 : n - q - 1 < 16 := by omega
      clear hP
      go_wp2_with fail
      go_loopw [7, 11] (fun s a wq => ∃ p s1 : Nat, p ≤ P ∧ a = .int .i64 (num p) ∧ s = .int .u64 s1 ∧ Hid (s1 = s0 + sm (n - q - 1) j p) ∧ Hid (∃ mo', Bk wq b mo' ∧ Gb w wq b mo mo')) (fun _ a _ => P - place (intOf a))
      case atStart => exact ⟨0, s0, by omega, rfl, rfl, rfl, mo1, HB1.out, HG1.out⟩
      case round =>
        obtain ⟨p, s1, hpP, rfl, rfl, HS1, HW⟩ := hrel
        have hs1 : s1 ≤ 4921911787962368 := by
          have := sm_le (n := n - q - 1) (k := j) (p := p) hm15 hj (by omega)
          have := vv_bd (n := n - q - 1 + 1) (k := j) (by omega) hj
          have := HS1.out
          omega
        by_cases hpe : p < P
        · have hne : ¬ num p = x := fun e => by rw [← HNP.out] at e; have := congrArg place e; rw [place_num, place_num] at this; omega
          obtain ⟨mo2, hB2, hG2⟩ := HW.out
          have HG2 : Hid (Gb w wr b mo mo2) := hG2
          obtain ⟨t, ht⟩ : ∃ t, (p + 1) / 2 = t := ⟨_, rfl⟩
          have HT : Hid ((num p).natAbs = t) := by show (num p).natAbs = t; rw [num_abs, ht]
          have htj : t ≤ j := by omega
          have HV : Hid (vI ((n : Int) - (q : Int) - 1) ((j : Int) - (t : Int)) = vv (n - q - 1) (j - t)) := by
            show vI _ _ = _
            rw [show (n : Int) - (q : Int) - 1 = ((n - q - 1 : Nat) : Int) by omega]
            exact vI_sub (by omega) hj htj
          have hvb := vv_bd (n := n - q - 1) (k := j - t) (by omega) (by omega)
          have HSM : Hid (sm (n - q - 1) j (p + 1) = sm (n - q - 1) j p + vv (n - q - 1) (j - t)) := by show sm (n - q - 1) j (p + 1) = _; rw [sm, ht]
          obtain ⟨v, hv⟩ : ∃ v, vv (n - q - 1) (j - t) = v := ⟨_, rfl⟩
          rw [hv] at HV hvb HSM
          have HB2 : Hid (Bk (wr.alloc (.cells #[.int .i64 (num p)] 3)) b mo2) := hB2.alloc _
          clear hv ht HW hB2 hG2
          go_wp2_with fail
          refine (pulses_one wr (num p) 3 t HT.out (by omega)).mono ?_
          rintro e w1 ⟨rfl, hw1⟩
          obtain rfl := hw1.symm
          clear hw1
          go_wp2_with fail
          refine (vb_calls _ b mo2 _ _ HB2).mono ?_
          rw [HV.out]
          rintro e w1 ⟨rfl, mo3, hB3, hG3⟩
          have HX3 : Hid (∃ mo', Bk w1 b mo' ∧ Gb w w1 b mo mo') := ⟨mo3, hB3, (HG2.out.alloc _).trans hG3⟩
          clear hB3 hG3
          go_wp2_with (go_at_call 154; refine (next_any _ p (by omega)).mono ?_; rintro e w2 ⟨rfl, hw1⟩; obtain rfl := hw1.symm; clear hw1)
          go_roundw
          case rel => exact ⟨p + 1, s1 + v, by omega, rfl, by go_num, by show s1 + v = _; rw [HSM.out, HS1.out]; omega, HX3⟩
          case measure => simp [intOf, place_num]; omega
        · obtain rfl : p = P := by omega
          obtain ⟨mo2, hB2, hG2⟩ := HW.out
          have HX3 : Hid (∃ mo', Bk (wr.alloc (.cells #[.int .i64 x] 3)) b mo' ∧ Gb w (wr.alloc (.cells #[.int .i64 x] 3)) b mo mo') := ⟨mo2, hB2.alloc _, hG2.alloc _⟩
          have HJ2 : Hid (pul (r.drop (q + 1)) = j - x.natAbs) := by show _ = _; have := HPD.out; rw [HJ.out] at this; omega
          have HS2 : Hid (s1 + rk (r.drop (q + 1)) (j - x.natAbs) = rk r k) := by
            show _ = _
            have := HS.out
            rw [HSX.out, HP.out, hr.out] at this
            have := HS1.out
            omega
          have hs2 : s1 ≤ 2460955893981184 := by
            have := HS2.out
            have := rk_bd r (by rw [hr.out]; exact hn) k hk hp.out
            omega
          obtain ⟨t, ht⟩ : ∃ t, x.natAbs = t := ⟨_, rfl⟩
          have HT : Hid (x.natAbs = t) := ht
          rw [ht] at HJ2 HS2
          have htj : t ≤ j := by omega
          rw [HNP.out]
          clear ht HW hB2 hG2
          go_wp2_with fail
          refine (pulses_one wr x 3 t HT.out (by omega)).mono ?_
          rintro e w1 ⟨rfl, hw1⟩
          obtain rfl := hw1.symm
          clear hw1
          go_wp2
          go_roundw
          case rel => exact ⟨q + 1, j - t, s1, by omega, by omega, by go_num, by go_num, rfl, hs2, HJ2, HS2, HX3⟩
          case measure => simp [intOf]; omega
    · obtain rfl : q = n := by omega
      have HE : Hid (s0 = rk r k) := by
        show s0 = rk r k
        have := HS.out
        rw [List.drop_of_length_le (by rw [hr.out]; exact Nat.le_refl _), rk] at this
        exact this
      go_wp2
      go_returns
      exact ⟨by rw [← HE.out]; rfl, HW.out⟩

set_option maxHeartbeats 1000000 in
/-- isThere. -/
theorem there_any (w : World) (b : Nat) (mo : Option Nat) (n k : Int) (i : Nat) (hn : Hid ((Lit.int .i64 n).wf = true)) (hk : Hid ((Lit.int .i64 k).wf = true)) (hi : i ≤ 18446744073709551615) (hB : Hid (Bk w b mo)) :
    Calls Tryz.prog 151 #[.pointer (some ⟨b, 0, none⟩), .int .i64 n, .int .i64 k, .int .u64 i] w fun e w' => e = .returned (.bool (decide (i < vI n k))) ∧ ∃ mo', Bk w' b mo' ∧ Gb w w' b mo mo' := by
  obtain ⟨S, hO, hBk⟩ := hB.out
  have HBk : Hid (BkAt w b mo S) := hBk
  have HO : Hid (Ok S) := hO
  have hvb := vI_bd n k
  obtain ⟨v, hv⟩ : ∃ v, vI n k = v := ⟨_, rfl⟩
  have HV : Hid (vI n k = v) := hv
  rw [hv] at hvb ⊢
  clear hv hBk hO
  cases hs : S n k with
  | true =>
    have HS : Hid (S n k = true) := hs
    clear hs
    go_enter Tryz.func151, Tryz.ntmps151
    go_wp2_with fail
    refine (has_any _ b mo S n k hn hk HBk).mono ?_
    rw [HS.out]
    rintro e w1 ⟨rfl, hg1⟩
    have HB1 : Hid (Bk w1 b mo) := hB.out.keep hg1
    have HG1 : Hid (Gb w w1 b mo mo) := Gb.grown hg1 _ _
    clear hg1
    go_wp2_with fail
    refine (vb_calls _ b mo n k HB1).mono ?_
    rw [HV.out]
    rintro e w2 ⟨rfl, mo2, hB2, hG2⟩
    have HX : Hid (∃ mo', Bk w2 b mo' ∧ Gb w w2 b mo mo') := ⟨mo2, hB2, HG1.out.trans hG2⟩
    clear hB2 hG2
    go_wp2
    go_returns
    exact ⟨rfl, HX.out⟩
  | false =>
    have HS : Hid (S n k = false) := hs
    clear hs
    by_cases hlt : i < v
    · have hlt' : (i : Int) < (v : Int) := by omega
      rw [decide_eq_true hlt]
      go_enter Tryz.func151, Tryz.ntmps151
      go_wp2_with fail
      refine (has_any _ b mo S n k hn hk HBk).mono ?_
      rw [HS.out]
      rintro e w1 ⟨rfl, hg1⟩
      have HB1 : Hid (Bk w1 b mo) := hB.out.keep hg1
      have HG1 : Hid (w.grownBy w1 none) := hg1
      clear hg1
      go_wp2_with fail
      refine (newb_calls _).mono ?_
      rintro e w2 ⟨b2, rfl, hB2, hb2, hle2⟩
      have HB2 : Hid (Bk w2 b2 none) := hB2
      clear hB2
      go_wp2_with fail
      refine (vb_calls _ b2 none n k HB2).mono ?_
      rw [HV.out]
      rintro e w3 ⟨rfl, mo3, hB3, hG3⟩
      have hg3 : w1.grownBy w3 none := (fun (h : Below w1.heap.size w1 w3) => ⟨h.os, h.tape, h.output, h.size, fun i hi _ => h.block i hi⟩) (below_book hb2 hle2 hG3)
      have HB3 : Hid (Bk w3 b mo) := HB1.out.keep hg3
      have HG3 : Hid (Gb w w3 b mo mo) := Gb.grown (gN_trans HG1.out hg3) _ _
      clear hB3 hG3 hg3 hb2 hle2 HB2 HB1 HG1
      go_wp2_with fail
      refine (vb_calls _ b mo n k HB3).mono ?_
      rw [HV.out]
      rintro e w4 ⟨rfl, mo4, hB4, hG4⟩
      have HX : Hid (∃ mo', Bk w4 b mo' ∧ Gb w w4 b mo mo') := ⟨mo4, hB4, HG3.out.trans hG4⟩
      clear hB4 hG4
      go_wp2
      go_returns
      exact ⟨rfl, HX.out⟩
    · have hlt' : ¬ (i : Int) < (v : Int) := by omega
      rw [decide_eq_false hlt]
      go_enter Tryz.func151, Tryz.ntmps151
      go_wp2_with fail
      refine (has_any _ b mo S n k hn hk HBk).mono ?_
      rw [HS.out]
      rintro e w1 ⟨rfl, hg1⟩
      have HB1 : Hid (Bk w1 b mo) := hB.out.keep hg1
      have HG1 : Hid (w.grownBy w1 none) := hg1
      clear hg1
      go_wp2_with fail
      refine (newb_calls _).mono ?_
      rintro e w2 ⟨b2, rfl, hB2, hb2, hle2⟩
      have HB2 : Hid (Bk w2 b2 none) := hB2
      clear hB2
      go_wp2_with fail
      refine (vb_calls _ b2 none n k HB2).mono ?_
      rw [HV.out]
      rintro e w3 ⟨rfl, mo3, hB3, hG3⟩
      have hg3 : w1.grownBy w3 none := (fun (h : Below w1.heap.size w1 w3) => ⟨h.os, h.tape, h.output, h.size, fun i hi _ => h.block i hi⟩) (below_book hb2 hle2 hG3)
      have HB3 : Hid (Bk w3 b mo) := HB1.out.keep hg3
      have HG3 : Hid (Gb w w3 b mo mo) := Gb.grown (gN_trans HG1.out hg3) _ _
      clear hB3 hG3 hg3 hb2 hle2 HB2 HB1 HG1
      go_wp2
      go_returns
      exact ⟨rfl, mo, HB3.out, HG3.out⟩

set_option maxHeartbeats 1000000 in
/-- first. -/
theorem first_any (w : World) (b : Nat) (mo : Option Nat) (z : Int) (m k i : Nat) (hz1 : 1 ≤ z) (hz2 : z ≤ 16) (hz : Hid (z = (m : Int) + 1)) (hk : k ≤ 32) (hi : Hid (i < vv (m + 1) k)) (hB : Hid (Bk w b mo)) :
    Calls Tryz.prog 152 #[.pointer (some ⟨b, 0, none⟩), .int .i64 z, .int .i64 k, .int .u64 i] w fun e w' => ∃ p j : Nat, e = .returned (.tuple #[.int .i64 (num p), .int .u64 j]) ∧ p ≤ 2 * k ∧ i = sm m k p + j ∧ j < vv m (k - (p + 1) / 2) ∧ ∃ mo', Bk w' b mo' ∧ Gb w w' b mo mo' := by
  have hm : m < 16 := by have := hz.out; omega
  have hib : i ≤ 2460955893981184 := Nat.le_trans (Nat.le_of_lt hi.out) (vv_bd (by omega) hk)
  go_enter Tryz.func152, Tryz.ntmps152
  go_wp2_with fail
  go_loopw [3, 10] (fun s a wr => ∃ p j : Nat, j ≤ 2460955893981184 ∧ a = .int .i64 (num p) ∧ s = .int .u64 j ∧ Hid (i = sm m k p + j) ∧ Hid (∃ mo', Bk wr b mo' ∧ Gb w wr b mo mo')) (fun _ a _ => 2 * k + 1 - place (intOf a))
  case atStart => exact ⟨0, i, hib, rfl, rfl, by show i = 0 + i; omega, mo, hB.out, Gb.refl _ _ _⟩
  case round =>
    obtain ⟨p, j, hj, rfl, rfl, HI, HW⟩ := hrel
    have hp : p ≤ 2 * k := first_at hm hk hi.out (by have := HI.out; omega)
    obtain ⟨mo2, hB2, hG2⟩ := HW.out
    have HG2 : Hid (Gb w wr b mo mo2) := hG2
    obtain ⟨t, ht⟩ : ∃ t, (p + 1) / 2 = t := ⟨_, rfl⟩
    have HT : Hid ((num p).natAbs = t) := by show (num p).natAbs = t; rw [num_abs, ht]
    have HT2 : Hid ((p + 1) / 2 = t) := ht
    have htk : t ≤ k := by omega
    have HV : Hid (vI (z - 1) ((k : Int) - (t : Int)) = vv m (k - t)) := by
      show vI _ _ = _
      rw [hz.out, show (m : Int) + 1 - 1 = (m : Int) by omega]
      exact vI_sub (by omega) hk htk
    have hvb := vv_bd (n := m) (k := k - t) (by omega) (by omega)
    have HSM : Hid (sm m k (p + 1) = sm m k p + vv m (k - t)) := by show sm m k (p + 1) = _; rw [sm, ht]
    obtain ⟨v, hv⟩ : ∃ v, vv m (k - t) = v := ⟨_, rfl⟩
    have HVV : Hid (vv m (k - t) = v) := hv
    rw [hv] at HV hvb HSM
    have HB2 : Hid (Bk (wr.alloc (.cells #[.int .i64 (num p)] 3)) b mo2) := hB2.alloc _
    clear hv ht HW hB2 hG2
    by_cases hlt : j < v
    · have hlt' : (j : Int) < (v : Int) := by omega
      go_wp2_with fail
      refine (pulses_one wr (num p) 3 t HT.out (by omega)).mono ?_
      rintro e w1 ⟨rfl, hw1⟩
      obtain rfl := hw1.symm
      clear hw1
      go_wp2_with fail
      refine (vb_calls _ b mo2 _ _ HB2).mono ?_
      rw [HV.out]
      rintro e w1 ⟨rfl, mo3, hB3, hG3⟩
      have HX3 : Hid (∃ mo', Bk w1 b mo' ∧ Gb w w1 b mo mo') := ⟨mo3, hB3, (HG2.out.alloc _).trans hG3⟩
      clear hB3 hG3
      go_wp2
      go_returns
      exact ⟨p, j, rfl, hp, HI.out, by rw [HT2.out, HVV.out]; exact hlt, HX3.out⟩
    · have hlt' : ¬ (j : Int) < (v : Int) := by omega
      go_wp2_with fail
      refine (pulses_one wr (num p) 3 t HT.out (by omega)).mono ?_
      rintro e w1 ⟨rfl, hw1⟩
      obtain rfl := hw1.symm
      clear hw1
      go_wp2_with fail
      refine (vb_calls _ b mo2 _ _ HB2).mono ?_
      rw [HV.out]
      rintro e w1 ⟨rfl, mo3, hB3, hG3⟩
      have HX3 : Hid (∃ mo', Bk w1 b mo' ∧ Gb w w1 b mo mo') := ⟨mo3, hB3, (HG2.out.alloc _).trans hG3⟩
      clear hB3 hG3
      go_wp2_with (go_at_call 154; refine (next_any _ p (by omega)).mono ?_; rintro e w2 ⟨rfl, hw1⟩; obtain rfl := hw1.symm; clear hw1)
      go_roundw
      case rel => exact ⟨p + 1, j - v, by omega, rfl, by go_num, by show i = _; rw [HSM.out]; have := HI.out; omega, HX3⟩
      case measure => simp [intOf, place_num]; omega
end Go.Proofs.YtfgpmdikkncckaaGreatDoor
namespace Go.Proofs.YtfgpmdikkncckaaGreatDoor
set_option linter.unusedVariables false
open Go.ChangeShapes Go.WideShapes Go.ChangeAt Go.RowKit

section
variable {w w' : World} {B : Nat} {r : List Int}
theorem OwnL.made (w : World) {B : Nat} (hB : B ≤ w.heap.size) (n : Nat) (hn : n ≤ 1000) : OwnL (w.alloc (.cells (madeCells #[.int .i64 0] n) 3)) B (.slice (some ⟨w.heap.size, 0, none⟩) n n) (List.replicate n 0) := by
  unfold OwnL
  rw [List.length_replicate]
  refine ⟨by rw [intL_len, List.length_replicate, Nat.mul_one], .inr ⟨_, n, _, rfl, hB, heap_alloc_new _ _, Nat.le_refl _, by unfold maxLen; omega, by rw [size_madeCells, Nat.mul_one], ?_⟩⟩
  rw [toList_madeCells_one, Nat.mul_one, intL, List.map_replicate, List.take_of_length_le (by simp)]
theorem OwnL.free {g n cap : Nat} (h : OwnL w B (.slice (some ⟨g, 0, none⟩) n cap) r) (j : Nat) : w.frozen? ⟨g, j, none⟩ = false := by
  rcases h.2 with ⟨h0, _⟩ | ⟨g', cap', cur, e, _, hg, _⟩
  · cases h0
  · cases e
    exact frozen_of_row _ _ j _ _ hg
theorem OwnL.set {g n cap : Nat} (h : OwnL w B (.slice (some ⟨g, 0, none⟩) n cap) r) (j : Nat) (x : Int) : OwnL (w.setCell ⟨g, j, none⟩ (.int .i64 x)) B (.slice (some ⟨g, 0, none⟩) n cap) (r.set j x) ∧ w.grownBy (w.setCell ⟨g, j, none⟩ (.int .i64 x)) (some g) := by
  have hn : n = r.length := by
    rcases h.2 with ⟨h0, _⟩ | ⟨g', cap', cur, e, _⟩
    · cases h0
    · cases e; rfl
  subst hn
  have := World.ownsRow.stored h j (.int .i64 x)
  refine ⟨?_, this.2⟩
  unfold OwnL
  rw [List.length_set, intL, List.map_set]
  exact this.1
theorem OwnL.gb {v : Value} {b : Nat} {mo mo' : Option Nat} (h : OwnL w B v r) (hB : Bk w b mo) (hG : Gb w w' b mo mo') (hb : b < B) : OwnL w' B v r := by
  obtain ⟨S, _, hB⟩ := hB
  refine ⟨h.1, ?_⟩
  rcases h.2 with h0 | ⟨g, cap, cur, h1, h2, h3, h4⟩
  · exact .inl h0
  · exact .inr ⟨g, cap, cur, h1, h2, hG.cells hB h3 (by omega), h4⟩
/-- A book is kept while a list of the call's own is written. -/
theorem Bk.row {v : Value} {b : Nat} {mo : Option Nat} (hB : Bk w b mo) (h : OwnL w B v r) (hb : b < B) (hg : w.grownBy w' v.ownBlock) : Bk w' b mo := by
  obtain ⟨S, hO, hB⟩ := hB
  refine ⟨S, hO, ?_⟩
  rcases h.2 with ⟨rfl, _⟩ | ⟨g, cap, cur, rfl, h2, h3, h4⟩
  · exact hB.keep hg
  · have hx := hB.apart h3
    exact hB.kept hg (by simp [Value.ownBlock]; omega) (fun m e => by simp only [Value.ownBlock]; intro e2; exact hx (by rw [← e2, e]))
theorem Gb.row' {w1 w2 : World} {b : Nat} {mo mo' : Option Nat} {row : Option Nat} (h : Gb w w1 b mo mo') (hg : w1.grownBy w2 row) (hr : ∀ g, row = some g → w.heap.size ≤ g) : Gb w w2 b mo mo' :=
  ⟨hg.os.trans h.os, hg.tape.trans h.tape, hg.output.trans h.output, Nat.le_trans h.size hg.size, fun i hi h1 h2 => (hg.block i (Nat.lt_of_lt_of_le hi h.size) (fun e => by have := hr i e.symm; omega)).trans (h.block i hi h1 h2), h.map⟩
end

theorem pulses_one_at (w : World) (g : Nat) (hg : w.heap.size = g) (x : Int) (t : TypeId) (k : Nat) (hp : x.natAbs = k) (hk : k ≤ 1000) : Calls Tryz.prog 153 #[.slice (some ⟨g, 0, none⟩) 1 1] (w.alloc (.cells #[.int .i64 x] t)) fun e w' => e = .returned (.int .i64 k) ∧ w' = w.alloc (.cells #[.int .i64 x] t) := by
  subst hg
  exact pulses_one w x t k hp hk
theorem set_next (pre : List Int) (q n : Nat) (x : Int) (hq : pre.length = q) (hn : q < n) : (pre ++ List.replicate (n - q) 0).set q x = (pre ++ [x]) ++ List.replicate (n - (q + 1)) 0 := by
  subst hq
  obtain ⟨m, hm⟩ : ∃ m, n - pre.length = m + 1 := ⟨n - pre.length - 1, by omega⟩
  rw [List.set_append_right _ _ (Nat.le_refl _), hm, show n - (pre.length + 1) = m by omega, List.replicate_succ]
  simp

theorem unrank_bad (w : World) (b : Nat) (mo : Option Nat) (n k : Int) (i : Nat) (hn : Hid ((Lit.int .i64 n).wf = true)) (hk : Hid ((Lit.int .i64 k).wf = true)) (hi : i ≤ 18446744073709551615) (hB : Hid (Bk w b mo)) (hlt : Hid (¬ i < vI n k)) :
    Calls Tryz.prog 146 #[.pointer (some ⟨b, 0, none⟩), .int .i64 n, .int .i64 k, .int .u64 i] w fun e w' => e = .returned (.tuple #[.slice none 0 0, .int .i64 2]) ∧ ∃ mo', Bk w' b mo' ∧ Gb w w' b mo mo' := by
  go_enter Tryz.func146, Tryz.ntmps146
  go_wp2_with fail
  refine (there_any _ b mo n k i hn hk hi hB).mono ?_
  rw [decide_eq_false hlt.out]
  rintro e w1 ⟨rfl, hX⟩
  have HX : Hid (∃ mo', Bk w1 b mo' ∧ Gb w w1 b mo mo') := hX
  clear hX
  go_wp2
  go_returns
  exact ⟨rfl, HX.out⟩

set_option maxHeartbeats 2000000 in
theorem unrank_good (w : World) (b : Nat) (mo : Option Nat) (n k i : Nat) (hi : Hid (i < vv n k)) (hn : n ≤ 16) (hk : k ≤ 32) (hB : Hid (Bk w b mo)) :
    Calls Tryz.prog 146 #[.pointer (some ⟨b, 0, none⟩), .int .i64 n, .int .i64 k, .int .u64 i] w fun e w' => ∃ (g : Nat) (r : List Int), e = .returned (.tuple #[.slice (some ⟨g, 0, none⟩) n n, .int .i64 0]) ∧ OwnL w' w.heap.size (.slice (some ⟨g, 0, none⟩) n n) r ∧ r.length = n ∧ pul r = k ∧ rk r k = i ∧ ∃ mo', Bk w' b mo' ∧ Gb w w' b mo mo' := by
  have hib : i ≤ 2460955893981184 := Nat.le_trans (Nat.le_of_lt hi.out) (vv_bd hn hk)
  have hbw := hB.out.lt
  have HV : Hid (i < vI (n : Int) (k : Int)) := by show i < vI _ _; rw [vI_nat hn hk]; exact hi.out
  have hmk := run_make_row' (P := Tryz.prog) 57 3 (.int .i64 0) 8 Tryz.underlying57 lint_info rfl .i64 .i64 n (by omega) (by omega)
  go_enter Tryz.func146, Tryz.ntmps146
  go_wp2_with fail
  refine (there_any _ b mo n k i (WalkArith.wf_i64 (by omega)) (WalkArith.wf_i64 (by omega)) (by omega) hB).mono ?_
  rw [decide_eq_true HV.out]
  rintro e w1 ⟨rfl, mo1, hB1, hG1⟩
  have HO1 : Hid (OwnL (w1.alloc (.cells (madeCells #[.int .i64 0] n) 3)) w.heap.size (.slice (some ⟨w1.heap.size, 0, none⟩) n n) (List.replicate n 0)) := OwnL.made w1 hG1.size n (by omega)
  have HX1 : Hid (∃ mo', Bk (w1.alloc (.cells (madeCells #[.int .i64 0] n) 3)) b mo' ∧ Gb w (w1.alloc (.cells (madeCells #[.int .i64 0] n) 3)) b mo mo') := ⟨mo1, hB1.alloc _, hG1.alloc _⟩
  have hs1 : w.heap.size ≤ w1.heap.size := hG1.size
  clear hB1 hG1
  go_wp2_with fail
  obtain ⟨wa, hwa⟩ : ∃ wa, w1.alloc (.cells (madeCells #[.int .i64 0] n) 3) = wa := ⟨_, rfl⟩
  obtain ⟨g, hg⟩ : ∃ g, w1.heap.size = g := ⟨_, rfl⟩
  rw [hwa, hg] at HO1
  rw [hwa] at HX1
  rw [hg] at hs1
  rw [hwa, hg]
  clear hwa hg hmk w1
  go_loopw [2, 3, 22] (fun kk s a wr => ∃ (q j s0 : Nat) (pre : List Int), q ≤ n ∧ j ≤ 32 ∧ s0 ≤ 2460955893981184 ∧ kk = .int .i64 j ∧ s = .int .u64 s0 ∧ a = .int .i64 q ∧ Hid (pre.length = q) ∧ Hid (pul pre + j = k) ∧ Hid (s0 < vv (n - q) j) ∧ Hid (∀ t, t.length = n - q → rk (pre ++ t) k + s0 = i + rk t j) ∧ Hid (OwnL wr w.heap.size (.slice (some ⟨g, 0, none⟩) n n) (pre ++ List.replicate (n - q) 0)) ∧ Hid (∃ mo', Bk wr b mo' ∧ Gb w wr b mo mo')) (fun _ _ a _ => n - (intOf a).toNat)
  case atStart => exact ⟨0, k, i, [], by omega, hk, hib, rfl, rfl, rfl, rfl, by show 0 + k = k; omega, hi, fun t _ => Nat.add_comm _ _, HO1, HX1⟩
  case round =>
    obtain ⟨q, j, s0, pre, hq, hj, hs0, rfl, rfl, rfl, HQ, HK, HS, HR, HO, HX⟩ := hrel
    clear HO1 HX1
    by_cases hlt : q < n
    · have hlt' : (q : Int) < (n : Int) := by omega
      obtain ⟨mo1, hB1, hG1⟩ := HX.out
      have HB1 : Hid (Bk wr b mo1) := hB1
      have HG1 : Hid (Gb w wr b mo mo1) := hG1
      clear hB1 hG1 HX
      have hz1 : (1 : Int) ≤ (n : Int) - (q : Int) := by omega
      go_wp2_with fail
      refine (first_any _ b mo1 ((n : Int) - (q : Int)) (n - q - 1) j s0 hz1 (by omega) (by show (n : Int) - (q : Int) = ((n - q - 1 : Nat) : Int) + 1; omega) hj (by show s0 < vv (n - q - 1 + 1) j; rw [show n - q - 1 + 1 = n - q by omega]; exact HS.out) HB1).mono ?_
      rintro e w2 ⟨p, s1, rfl, hp, hs1', hs2, mo2, hB2, hG2⟩
      have HS1 : Hid (s0 = sm (n - q - 1) j p + s1) := hs1'
      have HS2 : Hid (s1 < vv (n - q - 1) (j - (p + 1) / 2)) := hs2
      have hs1b : s1 ≤ 2460955893981184 := by omega
      have HO2 : Hid (OwnL w2 w.heap.size (.slice (some ⟨g, 0, none⟩) n n) (pre ++ List.replicate (n - q) 0)) := HO.out.gb HB1.out hG2 hbw
      have HB2 : Hid (Bk w2 b mo2) := hB2
      have HG2 : Hid (Gb w w2 b mo mo2) := HG1.out.trans hG2
      have c2 : w2.cell? ⟨g, q, none⟩ = some (.int .i64 0) := HO2.out.cell (by
        rw [List.getElem?_append_right (by rw [HQ.out]; exact Nat.le_refl _), HQ.out, Nat.sub_self, List.getElem?_replicate, if_pos (by omega)])
      have f2 := HO2.out.free q
      clear hs1' hs2 hB2 hG2
      obtain ⟨t, ht⟩ : ∃ t, (p + 1) / 2 = t := ⟨_, rfl⟩
      have HT : Hid ((num p).natAbs = t) := by show (num p).natAbs = t; rw [num_abs, ht]
      have htj : t ≤ j := by omega
      rw [ht] at HS2
      have hset := HO2.out.set q (num p)
      have HO3 : Hid (OwnL ((w2.setCell ⟨g, q, none⟩ (.int .i64 (num p))).alloc (.cells #[.int .i64 (num p)] 3)) w.heap.size (.slice (some ⟨g, 0, none⟩) n n) ((pre ++ [num p]) ++ List.replicate (n - (q + 1)) 0)) := by
        have := hset.1
        rw [set_next pre q n (num p) HQ.out hlt] at this
        exact this.kept (World.grownBy_alloc _ _ none) (by simp [Value.ownBlock])
      have HX3 : Hid (∃ mo', Bk ((w2.setCell ⟨g, q, none⟩ (.int .i64 (num p))).alloc (.cells #[.int .i64 (num p)] 3)) b mo' ∧ Gb w ((w2.setCell ⟨g, q, none⟩ (.int .i64 (num p))).alloc (.cells #[.int .i64 (num p)] 3)) b mo mo') :=
        ⟨mo2, (HB2.out.row HO2.out hbw hset.2).alloc _, (HG2.out.row' hset.2 (fun q e => by cases e; exact hs1)).alloc _⟩
      clear hset ht
      go_wp2_with fail
      refine (pulses_one_at (w2.setCell ⟨g, q, none⟩ (.int .i64 (num p))) w2.heap.size (World.size_setCell _ _ _) (num p) 3 t HT.out (by omega)).mono ?_
      rintro e w3 ⟨rfl, hw3⟩
      obtain rfl := hw3.symm
      clear hw3
      go_wp2
      go_roundw
      case rel =>
        refine ⟨q + 1, j - t, s1, pre ++ [num p], by omega, by omega, hs1b, by go_num, rfl, by go_num, ?_, ?_, ?_, ?_, HO3, HX3⟩
        · show (pre ++ [num p]).length = q + 1
          rw [List.length_append, HQ.out]; rfl
        · show pul (pre ++ [num p]) + (j - t) = k
          rw [pul_app]
          have h1 := HK.out
          have h2 := HT.out
          simp only [pul]
          omega
        · exact HS2
        · intro u hu
          have h1 := HR.out (num p :: u) (by rw [List.length_cons, hu]; omega)
          rw [rk, hu, place_num, HT.out, show n - (q + 1) = n - q - 1 by omega] at h1
          rw [List.append_assoc]
          have h2 := HS1.out
          show rk (pre ++ num p :: u) k + s1 = i + rk u (j - t)
          omega
      case measure => simp [intOf]; omega
    · obtain rfl : q = n := by omega
      have hj0 : j = 0 := by
        have h1 := HS.out
        rw [Nat.sub_self] at h1
        by_cases h2 : j = 0
        · exact h2
        · obtain ⟨m, rfl⟩ : ∃ m, j = m + 1 := ⟨j - 1, by omega⟩
          rw [vv_none (by omega)] at h1
          omega
      subst hj0
      have hs00 : s0 = 0 := by
        have h1 := HS.out
        rw [Nat.sub_self, vv_one (by omega)] at h1
        omega
      subst hs00
      have HO3 : Hid (OwnL wr w.heap.size (.slice (some ⟨g, 0, none⟩) q q) pre) := by
        show OwnL _ _ _ _
        have := HO.out
        rw [Nat.sub_self, List.replicate_zero, List.append_nil] at this
        exact this
      have HR3 : Hid (rk pre k = i) := by
        show rk pre k = i
        have := HR.out [] (by simp)
        rw [List.append_nil, rk] at this
        exact this
      have HP3 : Hid (pul pre = k) := by show pul pre = k; have := HK.out; omega
      go_wp2
      go_returns
      exact ⟨g, pre, rfl, HO3.out, HQ.out, HP3.out, HR3.out, HX.out⟩
end Go.Proofs.YtfgpmdikkncckaaGreatDoor
