/-
  Plain mathematics of layer 9 (sym): how many bits a number has, how a number below a total is split into a symbol and raw bits, where the steps lie among 64. No condition; no program.
-/
import Derived.Test.YtfgpmdikkncckaaDoorReaderMath
namespace Go.Proofs.YtfgpmdikkncckaaDoor
set_option linter.unusedVariables false
open Go.RowKit

theorem pow_pos' (n : Nat) : (0 : Int) < 2 ^ n := Int.pow_pos (by decide)
theorem pow_le' {a b : Nat} (h : a ≤ b) : (2 : Int) ^ a ≤ 2 ^ b := by
  obtain ⟨c, rfl⟩ := Nat.exists_eq_add_of_le h
  rw [Int.pow_add]
  have := pow_pos' a
  have h2 := pow_pos' c
  have h3 : (2 : Int) ^ a * 1 ≤ 2 ^ a * 2 ^ c := Int.mul_le_mul_of_nonneg_left (by omega) (by omega)
  rw [Int.mul_one] at h3
  exact h3
theorem pow_lt' {a b : Nat} (h : (2 : Int) ^ a < 2 ^ b) : a < b := by
  by_cases e : a < b
  · exact e
  · have := pow_le' (a := b) (b := a) (by omega)
    omega

/-- x has so many bits. -/
structure IsLen (x : Int) (n : Nat) : Prop where
  nn : 0 ≤ x
  up : x < 2 ^ n
  dn : n = 0 ∨ 2 ^ (n - 1) ≤ x
theorem IsLen.unique {x : Int} {n m : Nat} (h : IsLen x n) (k : IsLen x m) : n = m := by
  have h1 : n ≤ m := by
    rcases h.dn with e | e
    · omega
    · have := pow_lt' (Int.lt_of_le_of_lt e k.up); omega
  have h2 : m ≤ n := by
    rcases k.dn with e | e
    · omega
    · have := pow_lt' (Int.lt_of_le_of_lt e h.up); omega
  omega
theorem IsLen.more {x : Int} {n k : Nat} (h : IsLen (x / 2 ^ k) n) (hx : 2 ^ k ≤ x) : IsLen x (k + n) := by
  have p := pow_pos' k
  have h0 : 0 ≤ x := by omega
  have hu := h.up
  have hd := h.dn
  refine ⟨h0, ?_, ?_⟩
  · rw [Int.pow_add]
    have := (Int.ediv_lt_iff_lt_mul p).1 hu
    rw [Int.mul_comm] at this
    exact this
  · right
    rcases hd with e | e
    · subst e
      have := (Int.ediv_lt_iff_lt_mul p).1 hu
      simp at this
      omega
    · by_cases hn : n = 0
      · subst hn
        have := (Int.ediv_lt_iff_lt_mul p).1 hu
        simp at this
        omega
      · rw [show k + n - 1 = k + (n - 1) by omega, Int.pow_add, Int.mul_comm]
        exact (Int.le_ediv_iff_mul_le p).1 e

/-- How a number below the total t is split: a symbol of q, and s raw bits. -/
structure Sp (t q : Int) (s : Nat) : Prop where
  t1 : 1 ≤ t
  t2 : t ≤ 16777216
  s2 : s ≤ 16
  q : q = (t - 1) / 2 ^ s + 1
  low : t ≤ 256 → s = 0
  high : 256 < t → 1 ≤ s ∧ 2 ^ (s + 7) ≤ t - 1
  up : t - 1 < 2 ^ (s + 8)
theorem Sp.q_bd {t q : Int} {s : Nat} (h : Sp t q s) : 1 ≤ q ∧ q ≤ 256 := by
  have p := pow_pos' s
  have e := h.q
  have t1 := h.t1
  have h1 : 0 ≤ (t - 1) / 2 ^ s := Int.ediv_nonneg (by omega) (by omega)
  have h2 : (t - 1) / 2 ^ s < 256 := by
    rw [Int.ediv_lt_iff_lt_mul p]
    have := h.up
    rw [Int.pow_add] at this
    rw [Int.mul_comm]
    exact this
  omega
theorem Sp.v_bd {t q : Int} {s : Nat} (h : Sp t q s) {v : Int} (v0 : 0 ≤ v) (v1 : v < t) : 0 ≤ v / 2 ^ s ∧ v / 2 ^ s < q := by
  have p := pow_pos' s
  have e := h.q
  have h1 : 0 ≤ v / 2 ^ s := Int.ediv_nonneg v0 (by omega)
  have h2 : v / 2 ^ s ≤ (t - 1) / 2 ^ s := Int.ediv_le_ediv p (by omega)
  omega
theorem Sp.may {t q : Int} {s : Nat} (h : Sp t q s) {v : Int} (v0 : 0 ≤ v) (v1 : v < t) : May (v / 2 ^ s) (v / 2 ^ s + 1) q := by
  have h1 := h.v_bd v0 v1
  have h2 := h.q_bd
  exact ⟨h1.1, by omega, by omega, by omega⟩
theorem sp_of {t : Int} {n : Nat} (t1 : 1 ≤ t) (t2 : t ≤ 16777216) (h : IsLen (t - 1) n) : Sp t ((t - 1) / 2 ^ (n - 8) + 1) (n - 8) ∧ n ≤ 24 := by
  have hn : n ≤ 24 := by
    rcases h.dn with e | e
    · omega
    · have : (2 : Int) ^ (n - 1) < 2 ^ 24 := by
        have : (2 : Int) ^ 24 = 16777216 := by decide
        omega
      have := pow_lt' this
      omega
  have hu := h.up
  refine ⟨⟨t1, t2, by omega, rfl, fun ht => ?_, fun ht => ?_, ?_⟩, hn⟩
  · rcases h.dn with e | e
    · omega
    · have : (2 : Int) ^ (n - 1) < 2 ^ 8 := by
        have : (2 : Int) ^ 8 = 256 := by decide
        omega
      have := pow_lt' this
      omega
  · have h8 : 8 < n := by
      have : (2 : Int) ^ 8 < 2 ^ n ∨ n ≤ 8 := by
        by_cases e : n ≤ 8
        · exact .inr e
        · left
          have := pow_le' (a := 9) (b := n) (by omega)
          have : (2 : Int) ^ 9 = 512 := by decide
          have : (2 : Int) ^ 8 = 256 := by decide
          omega
      rcases this with e | e
      · exact pow_lt' e
      · have := pow_le' e
        have : (2 : Int) ^ 8 = 256 := by decide
        omega
    rcases h.dn with e | e
    · omega
    · exact ⟨by omega, by rw [show n - 8 + 7 = n - 1 by omega]; exact e⟩
  · have := pow_le' (a := n) (b := n - 8 + 8) (by omega)
    omega
theorem isLen_ex : ∀ (k : Nat) (x : Int), 0 ≤ x → x < 2 ^ k → ∃ n, IsLen x n
  | 0, x, h0, h1 => ⟨0, h0, by simpa using h1, .inl rfl⟩
  | k + 1, x, h0, h1 => by
    by_cases h : x < 2 ^ k
    · exact isLen_ex k x h0 h
    · exact ⟨k + 1, h0, h1, .inr (by simp; omega)⟩
theorem sp_ex {t : Int} (t1 : 1 ≤ t) (t2 : t ≤ 16777216) : ∃ n q s, IsLen (t - 1) n ∧ Sp t q s ∧ s = n - 8 ∧ n ≤ 24 := by
  have e : (2 : Int) ^ 24 = 16777216 := by decide
  obtain ⟨n, h⟩ := isLen_ex 24 (t - 1) (by omega) (by omega)
  exact ⟨n, _, _, h, (sp_of t1 t2 h).1, rfl, (sp_of t1 t2 h).2⟩
theorem Sp.unique {t q q' : Int} {s s' : Nat} (h : Sp t q s) (k : Sp t q' s') : q = q' ∧ s = s' := by
  have e : s = s' := by
    by_cases ht : t ≤ 256
    · rw [h.low ht, k.low ht]
    · have h1 := h.high (by omega)
      have k1 := k.high (by omega)
      have a := pow_lt' (Int.lt_of_le_of_lt h1.2 k.up)
      have b := pow_lt' (Int.lt_of_le_of_lt k1.2 h.up)
      omega
  subst e
  exact ⟨by rw [h.q, k.q], rfl⟩

/-- A number below a total, put. -/
def Mo.num (m : Mo) (v q : Int) (s : Nat) : Mo := Mo.raw s (v % 2 ^ s) (m.put (v / 2 ^ s) (v / 2 ^ s + 1) q)
theorem num_good {m : Mo} (h : m.Good) {t q v : Int} {s : Nat} (hs : Sp t q s) (v0 : 0 ≤ v) (v1 : v < t) : (m.num v q s).Good := raw_good (put_ok h (hs.may v0 v1)) _ _
theorem num_n (m : Mo) (v q : Int) (s : Nat) : m.nD ≤ (m.num v q s).nD ∧ (m.num v q s).nD ≤ m.nD + 2 ∧ (m.num v q s).nR = m.nR + s := by
  obtain ⟨h1, h2, h3, h4⟩ := raw_nR s (v % 2 ^ s) (m.put (v / 2 ^ s) (v / 2 ^ s + 1) q)
  have h5 := put_nD m (v / 2 ^ s) (v / 2 ^ s + 1) q
  have h6 := (put_nR m (v / 2 ^ s) (v / 2 ^ s + 1) q).1
  unfold Mo.num
  omega

/-- A number below a total, read: the reader behind it, and what was read. -/
def Re.num (m : Re) (p : Nat → Int) (q : Int) (s : Nat) : Re := (m.take p (m.get q) (m.get q + 1) q).raw s
def Re.numV (m : Re) (n : Nat) (p : Nat → Int) (q : Int) (s : Nat) : Int := m.get q * 2 ^ s + rsum n p m.nb s
theorem Sp.got {t q : Int} {s : Nat} (h : Sp t q s) {m : Re} (hg : m.Good) : 0 ≤ m.get q ∧ m.get q < q ∧ May (m.get q) (m.get q + 1) q := by
  have h1 := h.q_bd
  have h2 := get_bd hg (t := q) (by omega) (by omega)
  exact ⟨h2.1, h2.2.1, h2.1, by omega, by omega, by omega⟩
theorem numR_good {n : Nat} {p : Nat → Int} {m : Re} {t q : Int} {s : Nat} (hp : Bx n p) (hg : m.Good) (h : Sp t q s) : (m.num p q s).Good := rawRe_good (take_good hp hg (h.got hg).2.2) s
theorem numR_n (m : Re) (p : Nat → Int) (q : Int) (s : Nat) : m.tk ≤ (m.num p q s).tk ∧ (m.num p q s).tk ≤ m.tk + 2 ∧ (m.num p q s).nb = m.nb + s := by
  have h := take_n m p (m.get q) (m.get q + 1) q
  unfold Re.num Re.raw
  exact ⟨h.1, h.2.1, by simp only []; rw [h.2.2]⟩
theorem numV_bd {n : Nat} {p : Nat → Int} {m : Re} {t q : Int} {s : Nat} (hg : m.Good) (h : Sp t q s) : 0 ≤ m.numV n p q s ∧ m.numV n p q s < 16777216 := by
  have h1 := h.got hg
  have h2 := rsum_bd n p m.nb s
  have h3 := h.q_bd
  have p1 := pow_pos' s
  have p2 : (2 : Int) ^ s ≤ 65536 := by
    have := pow_le' h.s2
    have : (2 : Int) ^ 16 = 65536 := by decide
    omega
  have a1 : 0 ≤ m.get q * 2 ^ s := Int.mul_nonneg h1.1 (by omega)
  have a2 : m.get q * 2 ^ s ≤ 255 * 2 ^ s := Int.mul_le_mul_of_nonneg_right (by omega) (by omega)
  unfold Re.numV
  omega

/-- How wide the steps are, in their order, and where each begins. -/
def stW : Nat → Int
  | 0 => 20 | 1 => 9 | 2 => 9 | 3 => 5 | 4 => 5 | 5 => 3 | 6 => 3 | 7 => 2 | 8 => 2 | 9 => 1 | 10 => 1 | 11 => 1 | 12 => 1 | 13 => 1 | 14 => 1 | _ => 0
def stF : Nat → Int
  | 0 => 0
  | k + 1 => stF k + stW k
/-- A step's place in that order. -/
def stI (v : Int) : Nat := if v ≤ 0 then (-2 * v).toNat else (2 * v - 1).toNat
theorem st_may : ∀ k : Fin 15, May (stF k) (stF k + stW k) 64 := by unfold May; decide
theorem stI_le {v : Int} (h1 : -7 ≤ v) (h2 : v ≤ 7) : stI v < 15 := by unfold stI; split <;> omega
theorem stI_may {v : Int} (h1 : -7 ≤ v) (h2 : v ≤ 7) : May (stF (stI v)) (stF (stI v) + stW (stI v)) 64 := st_may ⟨stI v, stI_le h1 h2⟩
/-- A step, put. -/
def Mo.step (m : Mo) (v : Int) : Mo := m.put (stF (stI v)) (stF (stI v) + stW (stI v)) 64
end Go.Proofs.YtfgpmdikkncckaaDoor
