/-
  What pulses cost, of up to 16 numbers, and how many there may be, as a table; that it keeps to the counts of vectors, to the split of more than 8 numbers, and to what the laws say of it. How many bits a number has. No condition; no program.
-/
import Derived.Test.YtfgpmdikkncckaaGreatDoorMrgC
namespace Go.Proofs.YtfgpmdikkncckaaGreatDoor
set_option linter.unusedVariables false

/-- A row for each number of numbers: what 0, 1, 2 .. pulses cost, as many as there may be. -/
def cT : List (List Nat) := [
  [],
  [0, 2, 2, 2, 2, 2, 2, 2, 2, 2, 2, 2, 2, 2, 2, 2, 2, 2, 2, 2, 2, 2, 2, 2, 2, 2, 2, 2, 2, 2, 2, 2, 2],
  [0, 3, 4, 5, 5, 6, 6, 6, 6, 7, 7, 7, 7, 7, 7, 7, 7, 8, 8, 8, 8, 8, 8, 8, 8, 8, 8, 8, 8, 8, 8, 8, 8],
  [0, 4, 6, 7, 8, 8, 9, 9, 10, 10, 10, 10, 11, 11, 11, 11, 12, 12, 12, 12, 12, 12, 12, 13, 13, 13, 13, 13, 13, 13, 13, 13, 14],
  [0, 4, 6, 8, 9, 10, 11, 11, 12, 12, 13, 13, 14, 14, 14, 15, 15, 15, 15, 16, 16, 16, 16, 16, 17, 17, 17, 17, 17, 17, 18, 18, 18],
  [0, 5, 7, 9, 10, 11, 12, 13, 14, 15, 15, 16, 16, 17, 17, 18, 18, 18, 19, 19, 19, 20, 20, 20, 20, 21, 21, 21, 21, 21],
  [0, 5, 8, 10, 11, 13, 14, 15, 16, 17, 17, 18, 19, 19, 20, 20, 21, 21, 21],
  [0, 5, 8, 10, 12, 14, 15, 16, 17, 18, 19, 20, 21, 21],
  [0, 5, 8, 11, 13, 15, 16, 18, 19, 20, 21],
  [0, 7, 12, 14, 17, 19, 21, 22, 24, 25, 26, 27, 28, 29, 30, 31, 32, 33, 33, 34, 34, 35, 35, 36, 36, 37, 37, 38, 38, 38],
  [0, 7, 13, 15, 18, 20, 22, 23, 25, 26, 27, 28, 29, 30, 31, 32, 34, 35, 36, 36, 37, 37, 38, 38, 39, 39, 40, 40, 41, 41],
  [0, 7, 13, 16, 19, 21, 23, 24, 27, 28, 29, 30, 31, 32, 33, 34, 36, 37, 38],
  [0, 7, 13, 16, 20, 22, 24, 25, 28, 29, 31, 32, 33, 34, 35, 36, 38, 39, 40],
  [0, 7, 13, 16, 20, 22, 24, 26, 29, 30, 32, 33, 34, 35],
  [0, 7, 13, 16, 20, 22, 24, 26, 29, 31, 33, 34, 35, 36],
  [0, 7, 13, 16, 20, 23, 25, 27, 30, 32, 34],
  [0, 7, 13, 16, 20, 23, 26, 28, 31, 33, 35]]
def cr (n : Nat) : List Nat := cT.getD n []
def cap (n : Nat) : Nat := (cr n).length - 1
def bt (n k : Nat) : Nat := (cr n).getD k 0

/-- How many bits a number has. -/
def lenF : Nat → Nat → Nat
  | 0, _ => 0
  | f + 1, x => if x = 0 then 0 else lenF f (x / 2) + 1
def lenN (x : Nat) : Nat := lenF 24 x
theorem lenF_spec : ∀ (f x : Nat), x < 2 ^ f → x < 2 ^ lenF f x ∧ (lenF f x = 0 ∨ 2 ^ (lenF f x - 1) ≤ x) ∧ lenF f x ≤ f
  | 0, x, h => ⟨h, .inl rfl, by simp [lenF]⟩
  | f + 1, x, h => by
    rw [lenF]
    by_cases e : x = 0
    · rw [if_pos e]; subst e; exact ⟨by decide, .inl rfl, by omega⟩
    · rw [if_neg e]
      rw [Nat.pow_succ] at h
      obtain ⟨h1, h2, h3⟩ := lenF_spec f (x / 2) (by omega)
      refine ⟨?_, ?_, by omega⟩
      · rw [Nat.pow_succ]; omega
      · right
        rcases h2 with h2 | h2
        · rw [h2] at h1 ⊢; simp at h1 ⊢; omega
        · by_cases h0 : lenF f (x / 2) = 0
          · rw [h0]; simp; omega
          · rw [show lenF f (x / 2) + 1 - 1 = lenF f (x / 2) - 1 + 1 by omega, Nat.pow_succ]; omega
theorem lenN_spec {x : Nat} (h : x < 16777216) : x < 2 ^ lenN x ∧ (lenN x = 0 ∨ 2 ^ (lenN x - 1) ≤ x) ∧ lenN x ≤ 24 := lenF_spec 24 x (by simpa using h)
theorem pow_nat_lt {a b : Nat} (h : 2 ^ a < 2 ^ b) : a < b := (Nat.pow_lt_pow_iff_right (by decide)).1 h
/-- It is the only one such. -/
theorem lenN_only {x n : Nat} (hx : x < 16777216) (h1 : x < 2 ^ n) (h2 : n = 0 ∨ 2 ^ (n - 1) ≤ x) : n = lenN x := by
  obtain ⟨k1, k2, _⟩ := lenN_spec hx
  have a1 : n ≤ lenN x := by
    rcases h2 with e | e
    · omega
    · have := pow_nat_lt (Nat.lt_of_le_of_lt e k1); omega
  have a2 : lenN x ≤ n := by
    rcases k2 with e | e
    · omega
    · have := pow_nat_lt (Nat.lt_of_le_of_lt e h1); omega
  omega

/-- The greatest number of pulses below q whose vectors aren't too many. -/
def gr (n : Nat) : Nat → Nat
  | 0 => 0
  | q + 1 => if vv n q ≤ 1048576 then q else gr n q
/-- The most that any q ways to share k pulses cost. -/
def dear (f g : Nat → Nat) (k : Nat) : Nat → Nat
  | 0 => 0
  | q + 1 => max (dear f g k q) (f q + g (k - q))

theorem chk_cap : all2 17 1 (fun n k => Nat.ble (cap n) 32 && Nat.beq (bt n 0) 0 && Nat.ble n (17 * cap n)) = true := by kernel_rfl
theorem chk_bt : all2 17 33 (fun n k => Nat.ble (bt n k) 41 && (Nat.ble k (cap n) || Nat.beq (bt n k) 0)) = true := by kernel_rfl
theorem chk_gr : all2 8 1 (fun n k => Nat.beq (gr (n + 1) 33) (cap (n + 1))) = true := by kernel_rfl
theorem chk_may : all2 8 33 (fun n k => Nat.ble (vv (n + 1) k) 1048576 == Nat.ble k (cap (n + 1))) = true := by kernel_rfl
theorem chk_v : all2 8 32 (fun n k => Nat.ble 2 (vv (n + 1) (k + 1))) = true := by kernel_rfl
theorem chk_rank : all2 8 32 (fun n k => !Nat.ble (k + 1) (cap (n + 1)) || Nat.beq (lenN (vv (n + 1) (k + 1) - 1) + 1) (bt (n + 1) (k + 1))) = true := by kernel_rfl
theorem chk_half : all2 8 1 (fun n k => Nat.beq (cap (n + 9)) (min (cap ((n + 9) / 2)) (cap (n + 9 - (n + 9) / 2)))) = true := by kernel_rfl
theorem chk_dear : all2 8 32 (fun n k => !Nat.ble (k + 1) (cap (n + 9)) || Nat.beq (lenN (k + 1) + 1 + dear (bt ((n + 9) / 2)) (bt (n + 9 - (n + 9) / 2)) (k + 1) (k + 2)) (bt (n + 9) (k + 1))) = true := by kernel_rfl
theorem chk_rise : all2 16 32 (fun n k => !Nat.blt k (cap (n + 1)) || (Nat.ble (bt (n + 1) k) (bt (n + 1) (k + 1)) && Nat.ble 2 (bt (n + 1) (k + 1)))) = true := by kernel_rfl
theorem chk_cover : all2 8 32 (fun n k => !Nat.ble (k + 1) (cap (n + 1)) || (Nat.ble (2 * vv (n + 1) (k + 1)) (2 ^ bt (n + 1) (k + 1)) && Nat.blt (2 ^ bt (n + 1) (k + 1)) (4 * vv (n + 1) (k + 1)))) = true := by kernel_rfl
theorem chk_split : all2 8 32 (fun n c => !Nat.ble (c + 1) (cap (n + 9)) || (List.range (c + 2)).all fun i => Nat.blt (bt ((n + 9) / 2) i + bt (n + 9 - (n + 9) / 2) (c + 1 - i) + lenN (c + 1)) (bt (n + 9) (c + 1))) = true := by kernel_rfl

theorem cap_bd {n : Nat} (hn : n ≤ 16) : cap n ≤ 32 ∧ bt n 0 = 0 ∧ n ≤ 17 * cap n := by
  have h := all2_at chk_cap (n := n) (k := 0) (by omega) (by omega)
  simp only [Bool.and_eq_true] at h
  exact ⟨Nat.le_of_ble_eq_true h.1.1, Nat.eq_of_beq_eq_true h.1.2, Nat.le_of_ble_eq_true h.2⟩
theorem bt_bd {n k : Nat} (hn : n ≤ 16) (hk : k ≤ 32) : bt n k ≤ 41 := by
  have h := all2_at chk_bt (n := n) (k := k) (by omega) (by omega)
  simp only [Bool.and_eq_true] at h
  exact Nat.le_of_ble_eq_true h.1
theorem bt_out {n k : Nat} (hn : n ≤ 16) (hk : k ≤ 32) (h : cap n < k) : bt n k = 0 := by
  have h' := all2_at chk_bt (n := n) (k := k) (by omega) (by omega)
  simp only [Bool.and_eq_true, Bool.or_eq_true] at h'
  rcases h'.2 with e | e
  · have := Nat.le_of_ble_eq_true e; omega
  · exact Nat.eq_of_beq_eq_true e
theorem gr_is {n : Nat} (h1 : 1 ≤ n) (h2 : n ≤ 8) : gr n 33 = cap n := by
  obtain ⟨m, rfl⟩ : ∃ m, n = m + 1 := ⟨n - 1, by omega⟩
  exact Nat.eq_of_beq_eq_true (all2_at chk_gr (n := m) (k := 0) (by omega) (by omega))
theorem gr_bd (n : Nat) : ∀ q, gr n q ≤ q
  | 0 => Nat.le_refl _
  | q + 1 => by rw [gr]; split; omega; have := gr_bd n q; omega
theorem may_is {n k : Nat} (h1 : 1 ≤ n) (h2 : n ≤ 8) (hk : k ≤ 32) : vv n k ≤ 1048576 ↔ k ≤ cap n := by
  obtain ⟨m, rfl⟩ : ∃ m, n = m + 1 := ⟨n - 1, by omega⟩
  have h := all2_at chk_may (n := m) (k := k) (by omega) (by omega)
  rw [beq_iff_eq, Bool.eq_iff_iff] at h
  exact ⟨fun e => Nat.le_of_ble_eq_true (h.1 (Nat.ble_eq_true_of_le e)), fun e => Nat.le_of_ble_eq_true (h.2 (Nat.ble_eq_true_of_le e))⟩
theorem v_two {n k : Nat} (h1 : 1 ≤ n) (h2 : n ≤ 8) (k1 : 1 ≤ k) (hk : k ≤ 32) : 2 ≤ vv n k := by
  obtain ⟨m, rfl⟩ : ∃ m, n = m + 1 := ⟨n - 1, by omega⟩
  obtain ⟨j, rfl⟩ : ∃ j, k = j + 1 := ⟨k - 1, by omega⟩
  exact Nat.le_of_ble_eq_true (all2_at chk_v (n := m) (k := j) (by omega) (by omega))
theorem not_or {a b : Bool} (h : (!a || b) = true) (ha : a = true) : b = true := by subst ha; simpa using h
theorem rank_is {n k : Nat} (h1 : 1 ≤ n) (h2 : n ≤ 8) (k1 : 1 ≤ k) (hk : k ≤ cap n) : lenN (vv n k - 1) + 1 = bt n k := by
  have hc := (cap_bd (n := n) (by omega)).1
  obtain ⟨m, rfl⟩ : ∃ m, n = m + 1 := ⟨n - 1, by omega⟩
  obtain ⟨j, rfl⟩ : ∃ j, k = j + 1 := ⟨k - 1, by omega⟩
  exact Nat.eq_of_beq_eq_true (not_or (all2_at chk_rank (n := m) (k := j) (by omega) (by omega)) (Nat.ble_eq_true_of_le hk))
theorem half_is {n : Nat} (h1 : 9 ≤ n) (h2 : n ≤ 16) : cap n = min (cap (n / 2)) (cap (n - n / 2)) := by
  obtain ⟨m, rfl⟩ : ∃ m, n = m + 9 := ⟨n - 9, by omega⟩
  exact Nat.eq_of_beq_eq_true (all2_at chk_half (n := m) (k := 0) (by omega) (by omega))
theorem dear_is {n k : Nat} (h1 : 9 ≤ n) (h2 : n ≤ 16) (k1 : 1 ≤ k) (hk : k ≤ cap n) : lenN k + 1 + dear (bt (n / 2)) (bt (n - n / 2)) k (k + 1) = bt n k := by
  have hc := (cap_bd (n := n) (by omega)).1
  obtain ⟨m, rfl⟩ : ∃ m, n = m + 9 := ⟨n - 9, by omega⟩
  obtain ⟨j, rfl⟩ : ∃ j, k = j + 1 := ⟨k - 1, by omega⟩
  exact Nat.eq_of_beq_eq_true (not_or (all2_at chk_dear (n := m) (k := j) (by omega) (by omega)) (Nat.ble_eq_true_of_le hk))
theorem dear_bd {f g : Nat → Nat} {k : Nat} (hf : ∀ q, q ≤ k → f q ≤ 41) (hg : ∀ q, q ≤ k → g q ≤ 41) : ∀ q, q ≤ k + 1 → dear f g k q ≤ 82
  | 0, _ => by simp [dear]
  | q + 1, h => by
    rw [dear]
    have := dear_bd hf hg q (by omega)
    have := hf q (by omega)
    have := hg (k - q) (by omega)
    omega
theorem rise_is {n k : Nat} (h1 : 1 ≤ n) (h2 : n ≤ 16) (hk : k < cap n) : bt n k ≤ bt n (k + 1) ∧ 2 ≤ bt n (k + 1) := by
  have hc := (cap_bd (n := n) (by omega)).1
  obtain ⟨m, rfl⟩ : ∃ m, n = m + 1 := ⟨n - 1, by omega⟩
  have h := not_or (all2_at chk_rise (n := m) (k := k) (by omega) (by omega)) (Nat.ble_eq_true_of_le hk)
  simp only [Bool.and_eq_true] at h
  exact ⟨Nat.le_of_ble_eq_true h.1, Nat.le_of_ble_eq_true h.2⟩
theorem cover_is {n k : Nat} (h1 : 1 ≤ n) (h2 : n ≤ 8) (k1 : 1 ≤ k) (hk : k ≤ cap n) : 2 * vv n k ≤ 2 ^ bt n k ∧ 2 ^ bt n k < 4 * vv n k := by
  have hc := (cap_bd (n := n) (by omega)).1
  obtain ⟨m, rfl⟩ : ∃ m, n = m + 1 := ⟨n - 1, by omega⟩
  obtain ⟨j, rfl⟩ : ∃ j, k = j + 1 := ⟨k - 1, by omega⟩
  have h := not_or (all2_at chk_cover (n := m) (k := j) (by omega) (by omega)) (Nat.ble_eq_true_of_le hk)
  simp only [Bool.and_eq_true] at h
  exact ⟨Nat.le_of_ble_eq_true h.1, Nat.le_of_ble_eq_true h.2⟩
theorem split_is {n c i : Nat} (h1 : 9 ≤ n) (h2 : n ≤ 16) (c1 : 1 ≤ c) (hc : c ≤ cap n) (hi : i ≤ c) : bt (n / 2) i + bt (n - n / 2) (c - i) + lenN c < bt n c := by
  have hc' := (cap_bd (n := n) (by omega)).1
  obtain ⟨m, rfl⟩ : ∃ m, n = m + 9 := ⟨n - 9, by omega⟩
  obtain ⟨j, rfl⟩ : ∃ j, c = j + 1 := ⟨c - 1, by omega⟩
  have h := not_or (all2_at chk_split (n := m) (k := j) (by omega) (by omega)) (Nat.ble_eq_true_of_le hc)
  exact Nat.le_of_ble_eq_true (List.all_eq_true.1 h i (List.mem_range.2 (by omega)))

/-- Of any numbers and pulses: how many there may be, and what they cost; -1 outside. -/
def capI (n : Int) : Int := if 1 ≤ n ∧ n ≤ 16 then cap n.toNat else -1
def btI (n k : Int) : Int := if 1 ≤ n ∧ n ≤ 16 ∧ 0 ≤ k ∧ k ≤ cap n.toNat then bt n.toNat k.toNat else -1
theorem capI_nat {n : Nat} (h1 : 1 ≤ n) (h2 : n ≤ 16) : capI n = cap n := by unfold capI; rw [if_pos (by omega)]; rfl
theorem capI_out {n : Int} (h : ¬ (1 ≤ n ∧ n ≤ 16)) : capI n = -1 := if_neg h
theorem btI_nat {n k : Nat} (h1 : 1 ≤ n) (h2 : n ≤ 16) (hk : k ≤ cap n) : btI n k = bt n k := by unfold btI; rw [if_pos ⟨by omega, by omega, by omega, by simpa using hk⟩]; rfl
theorem btI_no {n : Int} (k : Int) (h : ¬ (1 ≤ n ∧ n ≤ 16)) : btI n k = -1 := if_neg (fun e => h ⟨e.1, e.2.1⟩)
theorem btI_low (n : Int) {k : Int} (h : k < 0) : btI n k = -1 := if_neg (fun e => by omega)
theorem btI_over {n : Nat} {k : Int} (h : cap n < k) : btI n k = -1 := if_neg (fun e => by have := e.2.2.2; simp at this; omega)
end Go.Proofs.YtfgpmdikkncckaaGreatDoor
