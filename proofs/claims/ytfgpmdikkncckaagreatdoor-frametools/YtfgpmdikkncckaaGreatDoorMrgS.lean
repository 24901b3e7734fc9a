/-
  Plain mathematics of layer 9 (sym): how many bits a number has, how a number below a total is split into a symbol and raw bits, where the steps lie among 64. No condition; no program.
  What the functions of package sym answer that touch no memory (right, split), and math/bits.Len below 2^24. Nothing that was there has turned.
  What Uint of package sym does with a reader: a number below a total is read, or there is no such total. Nothing that was there has turned but the reader's own block.
-/
import Derived.Test.YtfgpmdikkncckaaGreatDoorMrgR
import Derived.Test.YtfgpmdikkncckaaGreatDoorMrgW
import Derived.Test.YtfgpmdikkncckaaGreatDoorMrgF
import Derived.Handy
import Derived.Deep.RegionLaw
namespace Go.Proofs.YtfgpmdikkncckaaGreatDoor
set_option linter.unusedVariables false
open Go.RowKit

theorem pow_pos' (n : Nat) : (0 : Int) < 2 ^ n := Int.pow_pos (by decide)
theorem pow_le' {a b : Nat} (h : a ≤ b) : (2 : Int) ^ a ≤ 2 ^ b := by
  obtain ⟨c, rfl⟩ := Nat.exists_eq_add_of_le h
  rw [Int.pow_add]
  have := pow_pos' a
  have h2 := pow_pos' c
  have h3 : (2 : Int) ^ a * 1 ≤ 2 ^ a * 2 ^ c := Int.mul_le_mul_of_nonneg_left (by omega) (by omega)
  rw [Int.mul_one] at h3
  exact h3
theorem pow_lt' {a b : Nat} (h : (2 : Int) ^ a < 2 ^ b) : a < b := by
  by_cases e : a < b
  · exact e
  · have := pow_le' (a := b) (b := a) (by omega)
    omega

/-- x has so many bits. -/
structure IsLen (x : Int) (n : Nat) : Prop where
  nn : 0 ≤ x
  up : x < 2 ^ n
  dn : n = 0 ∨ 2 ^ (n - 1) ≤ x
theorem IsLen.unique {x : Int} {n m : Nat} (h : IsLen x n) (k : IsLen x m) : n = m := by
  have h1 : n ≤ m := by
    rcases h.dn with e | e
    · omega
    · have := pow_lt' (Int.lt_of_le_of_lt e k.up); omega
  have h2 : m ≤ n := by
    rcases k.dn with e | e
    · omega
    · have := pow_lt' (Int.lt_of_le_of_lt e h.up); omega
  omega
theorem IsLen.more {x : Int} {n k : Nat} (h : IsLen (x / 2 ^ k) n) (hx : 2 ^ k ≤ x) : IsLen x (k + n) := by
  have p := pow_pos' k
  have h0 : 0 ≤ x := by omega
  have hu := h.up
  have hd := h.dn
  refine ⟨h0, ?_, ?_⟩
  · rw [Int.pow_add]
    have := (Int.ediv_lt_iff_lt_mul p).1 hu
    rw [Int.mul_comm] at this
    exact this
  · right
    rcases hd with e | e
    · subst e
      have := (Int.ediv_lt_iff_lt_mul p).1 hu
      simp at this
      omega
    · by_cases hn : n = 0
      · subst hn
        have := (Int.ediv_lt_iff_lt_mul p).1 hu
        simp at this
        omega
      · rw [show k + n - 1 = k + (n - 1) by omega, Int.pow_add, Int.mul_comm]
        exact (Int.le_ediv_iff_mul_le p).1 e

/-- How a number below the total t is split: a symbol of q, and s raw bits. -/
structure Sp (t q : Int) (s : Nat) : Prop where
  t1 : 1 ≤ t
  t2 : t ≤ 16777216
  s2 : s ≤ 16
  q : q = (t - 1) / 2 ^ s + 1
  low : t ≤ 256 → s = 0
  high : 256 < t → 1 ≤ s ∧ 2 ^ (s + 7) ≤ t - 1
  up : t - 1 < 2 ^ (s + 8)
theorem Sp.q_bd {t q : Int} {s : Nat} (h : Sp t q s) : 1 ≤ q ∧ q ≤ 256 := by
  have p := pow_pos' s
  have e := h.q
  have t1 := h.t1
  have h1 : 0 ≤ (t - 1) / 2 ^ s := Int.ediv_nonneg (by omega) (by omega)
  have h2 : (t - 1) / 2 ^ s < 256 := by
    rw [Int.ediv_lt_iff_lt_mul p]
    have := h.up
    rw [Int.pow_add] at this
    rw [Int.mul_comm]
    exact this
  omega
theorem Sp.v_bd {t q : Int} {s : Nat} (h : Sp t q s) {v : Int} (v0 : 0 ≤ v) (v1 : v < t) : 0 ≤ v / 2 ^ s ∧ v / 2 ^ s < q := by
  have p := pow_pos' s
  have e := h.q
  have h1 : 0 ≤ v / 2 ^ s := Int.ediv_nonneg v0 (by omega)
  have h2 : v / 2 ^ s ≤ (t - 1) / 2 ^ s := Int.ediv_le_ediv p (by omega)
  omega
theorem Sp.may {t q : Int} {s : Nat} (h : Sp t q s) {v : Int} (v0 : 0 ≤ v) (v1 : v < t) : May (v / 2 ^ s) (v / 2 ^ s + 1) q := by
  have h1 := h.v_bd v0 v1
  have h2 := h.q_bd
  exact ⟨h1.1, by omega, by omega, by omega⟩
theorem sp_of {t : Int} {n : Nat} (t1 : 1 ≤ t) (t2 : t ≤ 16777216) (h : IsLen (t - 1) n) : Sp t ((t - 1) / 2 ^ (n - 8) + 1) (n - 8) ∧ n ≤ 24 := by
  have hn : n ≤ 24 := by
    rcases h.dn with e | e
    · omega
    · have : (2 : Int) ^ (n - 1) < 2 ^ 24 := by
        have : (2 : Int) ^ 24 = 16777216 := by decide
        omega
      have := pow_lt' this
      omega
  have hu := h.up
  refine ⟨⟨t1, t2, by omega, rfl, fun ht => ?_, fun ht => ?_, ?_⟩, hn⟩
  · rcases h.dn with e | e
    · omega
    · have : (2 : Int) ^ (n - 1) < 2 ^ 8 := by
        have : (2 : Int) ^ 8 = 256 := by decide
        omega
      have := pow_lt' this
      omega
  · have h8 : 8 < n := by
      have : (2 : Int) ^ 8 < 2 ^ n ∨ n ≤ 8 := by
        by_cases e : n ≤ 8
        · exact .inr e
        · left
          have := pow_le' (a := 9) (b := n) (by omega)
          have : (2 : Int) ^ 9 = 512 := by decide
          have : (2 : Int) ^ 8 = 256 := by decide
          omega
      rcases this with e | e
      · exact pow_lt' e
      · have := pow_le' e
        have : (2 : Int) ^ 8 = 256 := by decide
        omega
    rcases h.dn with e | e
    · omega
    · exact ⟨by omega, by rw [show n - 8 + 7 = n - 1 by omega]; exact e⟩
  · have := pow_le' (a := n) (b := n - 8 + 8) (by omega)
    omega
theorem isLen_ex : ∀ (k : Nat) (x : Int), 0 ≤ x → x < 2 ^ k → ∃ n, IsLen x n
  | 0, x, h0, h1 => ⟨0, h0, by simpa using h1, .inl rfl⟩
  | k + 1, x, h0, h1 => by
    by_cases h : x < 2 ^ k
    · exact isLen_ex k x h0 h
    · exact ⟨k + 1, h0, h1, .inr (by simp; omega)⟩
theorem sp_ex {t : Int} (t1 : 1 ≤ t) (t2 : t ≤ 16777216) : ∃ n q s, IsLen (t - 1) n ∧ Sp t q s ∧ s = n - 8 ∧ n ≤ 24 := by
  have e : (2 : Int) ^ 24 = 16777216 := by decide
  obtain ⟨n, h⟩ := isLen_ex 24 (t - 1) (by omega) (by omega)
  exact ⟨n, _, _, h, (sp_of t1 t2 h).1, rfl, (sp_of t1 t2 h).2⟩
theorem Sp.unique {t q q' : Int} {s s' : Nat} (h : Sp t q s) (k : Sp t q' s') : q = q' ∧ s = s' := by
  have e : s = s' := by
    by_cases ht : t ≤ 256
    · rw [h.low ht, k.low ht]
    · have h1 := h.high (by omega)
      have k1 := k.high (by omega)
      have a := pow_lt' (Int.lt_of_le_of_lt h1.2 k.up)
      have b := pow_lt' (Int.lt_of_le_of_lt k1.2 h.up)
      omega
  subst e
  exact ⟨by rw [h.q, k.q], rfl⟩

/-- A number below a total, put. -/
def Mo.num (m : Mo) (v q : Int) (s : Nat) : Mo := Mo.raw s (v % 2 ^ s) (m.put (v / 2 ^ s) (v / 2 ^ s + 1) q)
theorem num_good {m : Mo} (h : m.Good) {t q v : Int} {s : Nat} (hs : Sp t q s) (v0 : 0 ≤ v) (v1 : v < t) : (m.num v q s).Good := raw_good (put_ok h (hs.may v0 v1)) _ _
theorem num_n (m : Mo) (v q : Int) (s : Nat) : m.nD ≤ (m.num v q s).nD ∧ (m.num v q s).nD ≤ m.nD + 2 ∧ (m.num v q s).nR = m.nR + s := by
  obtain ⟨h1, h2, h3, h4⟩ := raw_nR s (v % 2 ^ s) (m.put (v / 2 ^ s) (v / 2 ^ s + 1) q)
  have h5 := put_nD m (v / 2 ^ s) (v / 2 ^ s + 1) q
  have h6 := (put_nR m (v / 2 ^ s) (v / 2 ^ s + 1) q).1
  unfold Mo.num
  omega

/-- A number below a total, read: the reader behind it, and what was read. -/
def Re.num (m : Re) (p : Nat → Int) (q : Int) (s : Nat) : Re := (m.take p (m.get q) (m.get q + 1) q).raw s
def Re.numV (m : Re) (n : Nat) (p : Nat → Int) (q : Int) (s : Nat) : Int := m.get q * 2 ^ s + rsum n p m.nb s
theorem Sp.got {t q : Int} {s : Nat} (h : Sp t q s) {m : Re} (hg : m.Good) : 0 ≤ m.get q ∧ m.get q < q ∧ May (m.get q) (m.get q + 1) q := by
  have h1 := h.q_bd
  have h2 := get_bd hg (t := q) (by omega) (by omega)
  exact ⟨h2.1, h2.2.1, h2.1, by omega, by omega, by omega⟩
theorem numR_good {n : Nat} {p : Nat → Int} {m : Re} {t q : Int} {s : Nat} (hp : Bx n p) (hg : m.Good) (h : Sp t q s) : (m.num p q s).Good := rawRe_good (take_good hp hg (h.got hg).2.2) s
theorem numR_n (m : Re) (p : Nat → Int) (q : Int) (s : Nat) : m.tk ≤ (m.num p q s).tk ∧ (m.num p q s).tk ≤ m.tk + 2 ∧ (m.num p q s).nb = m.nb + s := by
  have h := take_n m p (m.get q) (m.get q + 1) q
  unfold Re.num Re.raw
  exact ⟨h.1, h.2.1, by simp only []; rw [h.2.2]⟩
theorem numV_bd {n : Nat} {p : Nat → Int} {m : Re} {t q : Int} {s : Nat} (hg : m.Good) (h : Sp t q s) : 0 ≤ m.numV n p q s ∧ m.numV n p q s < 16777216 := by
  have h1 := h.got hg
  have h2 := rsum_bd n p m.nb s
  have h3 := h.q_bd
  have p1 := pow_pos' s
  have p2 : (2 : Int) ^ s ≤ 65536 := by
    have := pow_le' h.s2
    have : (2 : Int) ^ 16 = 65536 := by decide
    omega
  have a1 : 0 ≤ m.get q * 2 ^ s := Int.mul_nonneg h1.1 (by omega)
  have a2 : m.get q * 2 ^ s ≤ 255 * 2 ^ s := Int.mul_le_mul_of_nonneg_right (by omega) (by omega)
  unfold Re.numV
  omega

/-- How wide the steps are, in their order, and where each begins. -/
def stW : Nat → Int
  | 0 => 20 | 1 => 9 | 2 => 9 | 3 => 5 | 4 => 5 | 5 => 3 | 6 => 3 | 7 => 2 | 8 => 2 | 9 => 1 | 10 => 1 | 11 => 1 | 12 => 1 | 13 => 1 | 14 => 1 | _ => 0
def stF : Nat → Int
  | 0 => 0
  | k + 1 => stF k + stW k
/-- A step's place in that order. -/
def stI (v : Int) : Nat := if v ≤ 0 then (-2 * v).toNat else (2 * v - 1).toNat
theorem st_may : ∀ k : Fin 15, May (stF k) (stF k + stW k) 64 := by unfold May; decide
theorem stI_le {v : Int} (h1 : -7 ≤ v) (h2 : v ≤ 7) : stI v < 15 := by unfold stI; split <;> omega
theorem stI_may {v : Int} (h1 : -7 ≤ v) (h2 : v ≤ 7) : May (stF (stI v)) (stF (stI v) + stW (stI v)) 64 := st_may ⟨stI v, stI_le h1 h2⟩
/-- A step, put. -/
def Mo.step (m : Mo) (v : Int) : Mo := m.put (stF (stI v)) (stF (stI v) + stW (stI v)) 64
end Go.Proofs.YtfgpmdikkncckaaGreatDoor
namespace Go.Proofs.YtfgpmdikkncckaaGreatDoor
set_option linter.unusedVariables false
open Go.ChangeShapes Go.WideShapes Go.ChangeAt Go.RowKit

theorem sright_no (t : Int) (w : World) (h : ¬ (1 ≤ t ∧ t ≤ 16777216)) :
    Calls Tryz.prog 100 #[.int .i64 t] w fun e w' => e = .returned (.bool false) ∧ w' = w := by
  by_cases h1 : t < 1
  · go_enter Tryz.func100, Tryz.ntmps100
    go_wp2
    go_ret
    exact ⟨rfl, rfl⟩
  · have h2 : decide (t ≤ 16777216) = false := by simp; omega
    go_enter Tryz.func100, Tryz.ntmps100
    go_wp2
    go_ret
    exact ⟨rfl, rfl⟩
theorem sright_yes (t : Int) (w : World) (h1 : 1 ≤ t) (h2 : t ≤ 16777216) :
    Calls Tryz.prog 100 #[.int .i64 t] w fun e w' => e = .returned (.bool true) ∧ w' = w := by
  go_enter Tryz.func100, Tryz.ntmps100
  go_wp2
  go_ret
  exact ⟨rfl, rfl⟩

def isLenB (x : Nat) (n : Nat) : Bool := decide (x < 2 ^ n) && (decide (n = 0) || decide (2 ^ (n - 1) ≤ x)) && decide (n ≤ 8)
theorem stab_ok (T : ByteArray) (hT : (List.range 256).all (fun i => if h : i < T.size then isLenB i T[i].toNat else false) = true) (i : Nat) (hi : i < 256) (h : i < T.size) : IsLen i T[i].toNat ∧ T[i].toNat ≤ 8 := by
  have h1 := List.all_eq_true.1 hT i (List.mem_range.2 hi)
  rw [dif_pos h] at h1
  unfold isLenB at h1
  simp only [Bool.and_eq_true, Bool.or_eq_true, decide_eq_true_eq] at h1
  obtain ⟨⟨h1, h2⟩, h3⟩ := h1
  refine ⟨⟨by omega, by exact_mod_cast h1, ?_⟩, h3⟩
  rcases h2 with e | e
  · exact .inl e
  · exact .inr (by exact_mod_cast e)
theorem slen_fin (T : ByteArray) (hT : (List.range 256).all (fun i => if h : i < T.size then isLenB i T[i].toNat else false) = true) (x P D : Int) (d : Nat) (hd : d ≤ 16) (hD : D = d) (hP : P = 2 ^ d) (hx : d = 0 ∨ P ≤ x) (h0 : 0 ≤ x / P) (h1 : x / P < 256) (w : World) (h : (x / P).toNat < T.size) :
    ∃ n : Nat, Ending.returned (.int .i64 (wrap64 (D + wrap64 T[(x / P).toNat].toNat))) = .returned (.int .i64 n) ∧ IsLen x n ∧ w = w := by
  obtain ⟨k1, k2⟩ := stab_ok T hT (x / P).toNat (by omega) h
  generalize T[(x / P).toNat].toNat = k at *
  refine ⟨d + k, ?_, ?_, rfl⟩
  · have e : wrap64 (k : Int) = k := by unfold wrap64; omega
    rw [e, hD]
    have e2 : wrap64 ((d : Int) + (k : Int)) = ((d + k : Nat) : Int) := by unfold wrap64; omega
    rw [e2]
  · rw [show ((x / P).toNat : Int) = x / 2 ^ d by rw [hP] at h0 ⊢; omega] at k1
    rcases hx with e | e
    · subst e
      rw [Nat.zero_add]
      simpa using k1
    · rw [hP] at e
      exact k1.more e
theorem slen_low (T : ByteArray) (hT : (List.range 256).all (fun i => if h : i < T.size then isLenB i T[i].toNat else false) = true) (x : Int) (h0 : 0 ≤ x) (h1 : x < 256) (w : World) (h : x.toNat < T.size) :
    ∃ n : Nat, Ending.returned (.int .i64 (wrap64 (wrap64 T[x.toNat].toNat))) = .returned (.int .i64 n) ∧ IsLen x n ∧ w = w := by
  obtain ⟨k1, k2⟩ := stab_ok T hT x.toNat (by omega) h
  generalize T[x.toNat].toNat = k at *
  refine ⟨k, ?_, ?_, rfl⟩
  · have e : wrap64 (k : Int) = k := by unfold wrap64; omega
    rw [e, e]
  · rw [show (x.toNat : Int) = x by omega] at k1
    exact k1

set_option maxRecDepth 20000 in
theorem slen64_any (x : Int) (w : World) (h0 : 0 ≤ x) (h1 : x < 16777216) :
    Calls Tryz.prog 106 #[.int .u64 x] w fun e w' => ∃ n : Nat, e = .returned (.int .i64 n) ∧ IsLen x n ∧ w' = w := by
  by_cases h2 : 65536 ≤ x
  · go_enter Tryz.func106, Tryz.ntmps106
    go_wp2
    go_ret
    exact slen_fin _ (by decide +kernel) x 65536 16 16 (by decide) rfl rfl (.inr h2) (by omega) (by omega) w _
  · by_cases h3 : 256 ≤ x
    · have h4 : x < 65536 := by omega
      clear h2
      go_enter Tryz.func106, Tryz.ntmps106
      go_wp2
      go_ret
      exact slen_fin _ (by decide +kernel) x 256 8 8 (by decide) rfl rfl (.inr h3) (by omega) (by omega) w _
    · have h4 : x < 256 := by omega
      clear h2 h3
      go_enter Tryz.func106, Tryz.ntmps106
      go_wp2
      go_ret
      refine slen_low _ ?_ x h0 h4 w _; decide +kernel

set_option maxRecDepth 20000 in
theorem len_any (x : Int) (w : World) (h0 : 0 ≤ x) (h1 : x < 16777216) :
    Calls Tryz.prog 107 #[.int .u64 x] w fun e w' => ∃ n : Nat, e = .returned (.int .i64 n) ∧ IsLen x n ∧ w' = w := by
  go_enter Tryz.func107, Tryz.ntmps107
  go_wp2_with (go_at_call 106; refine (slen64_any x _ h0 h1).mono ?_; rintro e w1 ⟨n, rfl, hn, rfl⟩; replace hn : Hid (IsLen x n) := hn)
  go_ret
  exact ⟨n, rfl, hn.out, rfl⟩

theorem len_is (x : Int) (n : Nat) (w : World) (h1 : x < 16777216) (h : Hid (IsLen x n)) :
    Calls Tryz.prog 107 #[.int .u64 x] w fun e w' => e = .returned (.int .i64 n) ∧ w' = w := by
  refine (len_any x w h.out.nn h1).mono ?_
  rintro e w' ⟨k, rfl, hk, rfl⟩
  exact ⟨by rw [h.out.unique hk], rfl⟩

theorem split_any (t q : Int) (s : Nat) (w : World) (h : Hid (Sp t q s)) :
    Calls Tryz.prog 101 #[.int .i64 t] w fun e w' => e = .returned (.tuple #[.int .i64 q, .int .i64 s]) ∧ w' = w := by
  have t1 := h.out.t1
  have t2 := h.out.t2
  have e2 : IntKind.u64.wrap (t - 1) = t - 1 := by simp [IntKind.wrap, IntKind.bits, IntKind.signed]; omega
  obtain ⟨n, q', s', hl, hs, hn, hn24⟩ := sp_ex t1 t2
  obtain ⟨rfl, rfl⟩ := hs.unique h.out
  have hq := hs.q
  have hqb := hs.q_bd
  have HL : Hid (IsLen (t - 1) n) := hl
  by_cases h8 : n ≤ 8
  · obtain rfl : s' = 0 := by omega
    have hq' : q' = t := by rw [hq]; simp
    subst hq'
    have e3 : ((n : Int) - 8) ≤ 0 := by omega
    clear hq hl hs hn h
    go_enter Tryz.func101, Tryz.ntmps101
    go_wp2_with (go_at_call 107; refine (len_is _ n _ (by omega) HL).mono ?_; rintro e w1 ⟨rfl, rfl⟩)
    go_returns
    exact ⟨rfl, rfl⟩
  · have hn' : (n : Int) - 8 = s' := by omega
    have hs0 : (0 : Int) < s' := by omega
    have hs1 : (s' : Int) < 64 := by omega
    have hq' : IntKind.i64.wrap ((t - 1) / 2 ^ s' + 1) = q' := by rw [hq]; simp [IntKind.wrap, IntKind.bits, IntKind.signed]; omega
    clear hq hl hs hn h h8
    go_enter Tryz.func101, Tryz.ntmps101
    go_wp2_with (go_at_call 107; refine (len_is _ n _ (by omega) HL).mono ?_; rintro e w1 ⟨rfl, rfl⟩)
    go_returns
    exact ⟨rfl, rfl⟩

end Go.Proofs.YtfgpmdikkncckaaGreatDoor
namespace Go.Proofs.YtfgpmdikkncckaaGreatDoor
set_option linter.unusedVariables false
open Go.ChangeShapes Go.WideShapes Go.ChangeAt Go.RowKit

theorem uint_bad (w : World) (b : Nat) (t : Int) (h : ¬ (1 ≤ t ∧ t ≤ 16777216)) :
    Calls Tryz.prog 83 #[.pointer (some ⟨b, 0, none⟩), .int .i64 t] w fun e w' => e = .returned (.tuple #[.int .i64 0, .bool false]) ∧ w' = w := by
  go_enter Tryz.func83, Tryz.ntmps83
  go_wp2_with (go_at_call 100; refine (sright_no _ _ h).mono ?_; rintro e w1 ⟨rfl, rfl⟩)
  go_returns
  exact ⟨rfl, rfl⟩

/-- What is answered where v was read. -/
def uintA (v t : Int) : Value := .tuple #[.int .i64 (if t ≤ v then t - 1 else v), .bool (decide (v < t))]

set_option maxHeartbeats 2000000 in
set_option maxRecDepth 20000 in
theorem uint_rd (w : World) (lo hi b n : Nat) (p : Nat → Int) (m : Re) (t q : Int) (s : Nat) (hn : n ≤ 100000) (hk : m.tk ≤ 800000) (hl : m.nb ≤ 700000) (hp : Hid (Bx n p)) (hg : Hid m.Good) (hs : Hid (Sp t q s)) (h : Hid (RdAt w lo hi b n p m)) :
    Calls Tryz.prog 83 #[.pointer (some ⟨b, 0, none⟩), .int .i64 t] w fun e w' => e = .returned (uintA (m.numV n p q s) t) ∧ RdAt w' lo hi b n p (m.num p q s) ∧ w.grownBy w' (some b) := by
  have t1 := hs.out.t1
  have t2 := hs.out.t2
  have s2 := hs.out.s2
  have qb := hs.out.q_bd
  obtain ⟨g0, g1, hM⟩ := hs.out.got hg.out
  have HM : Hid (May (m.get q) (m.get q + 1) q) := hM
  have HGU : Hid (m.getU q = m.get q) := if_pos ⟨by omega, by omega⟩
  have hV := numV_bd (n := n) (p := p) hg.out hs.out
  have HE : Hid (m.num p q s = (m.take p (m.get q) (m.get q + 1) q).raw s) := rfl
  have HVe : Hid (m.numV n p q s = m.get q * 2 ^ s + rsum n p m.nb s) := rfl
  have hnb : (m.take p (m.get q) (m.get q + 1) q).nb = m.nb := (take_n m p _ _ q).2.2
  obtain ⟨g, hge⟩ : ∃ g, m.get q = g := ⟨_, rfl⟩
  rw [hge] at g0 g1 HM HGU HE HVe hnb
  obtain ⟨m1, hm1⟩ : ∃ m1, m.take p g (g + 1) q = m1 := ⟨_, rfl⟩
  have HT : Hid _ := hm1
  rw [hm1] at HE hnb
  clear hM hge hm1
  have t1' : ¬ t ≤ 0 := by omega
  by_cases h0 : s = 0
  · subst h0
    have hq : q = t := by have := hs.out.q; rw [this]; simp
    subst hq
    have HV0 : Hid (m.numV n p q 0 = g) := by show _ = _; rw [HVe.out]; simp [rsum]
    have HR0 : Hid (m.num p q 0 = m1) := by show _ = _; rw [HE.out]; rfl
    rw [HV0.out] at hV ⊢
    have hA : uintA g q = .tuple #[.int .i64 g, .bool true] := by unfold uintA; rw [if_neg (by omega)]; simp [g1]
    have HA : Hid _ := hA
    clear hA
    by_cases gp : 0 < g
    · have g1' : ¬ q ≤ g := by omega
      go_enter Tryz.func83, Tryz.ntmps83
      go_wp2_with (first
        | (go_at_call 100; refine (sright_yes _ _ t1 t2).mono ?_; rintro e w1 ⟨rfl, rfl⟩)
        | (go_at_call 101; refine (split_any _ q 0 _ hs).mono ?_; rintro e w1 ⟨rfl, rfl⟩)
        | (go_at_call 124; refine (rdget _ lo hi b n p m q hg h).mono ?_; rw [HGU.out]; rintro e w1 ⟨rfl, rfl⟩)
        | (go_at_call 127; refine (rdtake _ lo hi b n p m g (g + 1) q hn hk hp hg HM h).mono ?_; rw [HT.out]; rintro e w2 ⟨rfl, HW2, HB2⟩; replace HW2 : Hid (RdAt w2 lo hi b n p m1) := HW2; replace HB2 : Hid _ := HB2))
      go_returns
      exact ⟨by rw [HA.out]; rfl, by rw [HR0.out]; exact HW2.out, HB2.out⟩
    · obtain rfl : g = 0 := by omega
      go_enter Tryz.func83, Tryz.ntmps83
      go_wp2_with (first
        | (go_at_call 100; refine (sright_yes _ _ t1 t2).mono ?_; rintro e w1 ⟨rfl, rfl⟩)
        | (go_at_call 101; refine (split_any _ q 0 _ hs).mono ?_; rintro e w1 ⟨rfl, rfl⟩)
        | (go_at_call 124; refine (rdget _ lo hi b n p m q hg h).mono ?_; rw [HGU.out]; rintro e w1 ⟨rfl, rfl⟩)
        | (go_at_call 127; refine (rdtake _ lo hi b n p m 0 1 q hn hk hp hg HM h).mono ?_; rw [show m.take p 0 1 q = m1 from HT.out]; rintro e w2 ⟨rfl, HW2, HB2⟩; replace HW2 : Hid (RdAt w2 lo hi b n p m1) := HW2; replace HB2 : Hid _ := HB2))
      go_returns
      exact ⟨by rw [HA.out]; rfl, by rw [HR0.out]; exact HW2.out, HB2.out⟩
  · have hs0 : (0 : Int) < s := by omega
    have hs1 : (s : Int) < 64 := by omega
    have hrk : rawK s = s := by unfold rawK; rw [if_neg (by omega), if_neg (by omega), Int.toNat_natCast]
    have HRK : Hid _ := hrk
    have hnb1 : m1.nb ≤ 700000 := by omega
    have HNB : Hid _ := hnb
    have hr := rsum_bd n p m.nb s
    have p1 := pow_pos' s
    have p2 : (2 : Int) ^ s ≤ 65536 := by
      have := pow_le' s2
      have : (2 : Int) ^ 16 = 65536 := by decide
      omega
    have a1 : 0 ≤ g * 2 ^ s := Int.mul_nonneg g0 (by omega)
    have a2 : g * 2 ^ s ≤ 255 * 2 ^ s := Int.mul_le_mul_of_nonneg_right (by omega) (by omega)
    obtain ⟨x, hx⟩ : ∃ x, rsum n p m.nb s = x := ⟨_, rfl⟩
    have HX : Hid _ := hx
    rw [hx] at hr HVe
    obtain ⟨y, hy⟩ : ∃ y, g * 2 ^ s = y := ⟨_, rfl⟩
    have hy2 : IntKind.i64.wrap (g * 2 ^ s) = y := by rw [hy]; simp [IntKind.wrap, IntKind.bits, IntKind.signed]; omega
    have HY : Hid _ := hy
    rw [hy] at a1 a2 HVe
    have hx64 : IntKind.i64.wrap x = x := by simp [IntKind.wrap, IntKind.bits, IntKind.signed]; omega
    have hyx : IntKind.i64.wrap (y + x) = y + x := by simp [IntKind.wrap, IntKind.bits, IntKind.signed]; omega
    rw [HVe.out] at hV ⊢
    clear hx hy hrk hnb hr p1 p2 a1 a2
    obtain ⟨V, hVe⟩ : ∃ V, y + x = V := ⟨_, rfl⟩
    rw [hVe] at hV hyx ⊢
    have hA : (t ≤ V ∧ uintA V t = .tuple #[.int .i64 (t - 1), .bool false]) ∨ (¬ t ≤ V ∧ uintA V t = .tuple #[.int .i64 V, .bool true]) := by
      by_cases e : t ≤ V
      · left; refine ⟨e, ?_⟩; unfold uintA; rw [if_pos e]; simp; omega
      · right; refine ⟨e, ?_⟩; unfold uintA; rw [if_neg e]; simp; omega
    by_cases gp : 0 < g
    · rcases hA with ⟨ht, hA⟩ | ⟨ht, hA⟩
      all_goals (
        have HA : Hid _ := hA
        clear hA
        go_enter Tryz.func83, Tryz.ntmps83
        go_wp2_with (first
          | (go_at_call 100; refine (sright_yes _ _ t1 t2).mono ?_; rintro e w1 ⟨rfl, rfl⟩)
          | (go_at_call 101; refine (split_any _ q s _ hs).mono ?_; rintro e w1 ⟨rfl, rfl⟩)
          | (go_at_call 124; refine (rdget _ lo hi b n p m q hg h).mono ?_; rw [HGU.out]; rintro e w1 ⟨rfl, rfl⟩)
          | (go_at_call 127; refine (rdtake _ lo hi b n p m g (g + 1) q hn hk hp hg HM h).mono ?_; rw [HT.out]; rintro e w2 ⟨rfl, HW2, HB2⟩; replace HW2 : Hid (RdAt w2 lo hi b n p m1) := HW2; replace HB2 : Hid _ := HB2))
        go_region_with (go_at_call 125; refine (rdraw _ lo hi b n p m1 s hn hnb1 hp (RdAt.keep HW2.out (by repeat (first | (with_reducible exact grown_refl _ none) | (with_reducible refine grown_alloc ?_ _) | (with_reducible refine grown_drew ?_))))).mono ?_; rw [HNB.out, HRK.out, HX.out]; rintro e w3 ⟨rfl, HW3, HB3⟩; replace HW3 : Hid (RdAt w3 lo hi b n p (m1.raw s)) := HW3; replace HB3 : Hid _ := HB3)
        all_goals (
          go_wp2
          go_returns
          exact ⟨by rw [HA.out]; rfl, by rw [HE.out]; exact HW3.out, grown_trans HB2.out (grown_trans (grown_drew (grown_refl _ _)) HB3.out)⟩))
    · obtain rfl : g = 0 := by omega
      obtain rfl : y = 0 := by have := HY.out; rw [Int.zero_mul] at this; exact this.symm
      obtain rfl : x = V := by rw [← hVe, Int.zero_add]
      clear hy2 hyx hVe
      rcases hA with ⟨ht, hA⟩ | ⟨ht, hA⟩
      all_goals (
        have HA : Hid _ := hA
        clear hA
        go_enter Tryz.func83, Tryz.ntmps83
        go_wp2_with (first
          | (go_at_call 100; refine (sright_yes _ _ t1 t2).mono ?_; rintro e w1 ⟨rfl, rfl⟩)
          | (go_at_call 101; refine (split_any _ q s _ hs).mono ?_; rintro e w1 ⟨rfl, rfl⟩)
          | (go_at_call 124; refine (rdget _ lo hi b n p m q hg h).mono ?_; rw [HGU.out]; rintro e w1 ⟨rfl, rfl⟩)
          | (go_at_call 127; refine (rdtake _ lo hi b n p m 0 1 q hn hk hp hg HM h).mono ?_; rw [show m.take p 0 1 q = m1 from HT.out]; rintro e w2 ⟨rfl, HW2, HB2⟩; replace HW2 : Hid (RdAt w2 lo hi b n p m1) := HW2; replace HB2 : Hid _ := HB2))
        go_region_with (go_at_call 125; refine (rdraw _ lo hi b n p m1 s hn hnb1 hp (RdAt.keep HW2.out (by repeat (first | (with_reducible exact grown_refl _ none) | (with_reducible refine grown_alloc ?_ _) | (with_reducible refine grown_drew ?_))))).mono ?_; rw [HNB.out, HRK.out, HX.out]; rintro e w3 ⟨rfl, HW3, HB3⟩; replace HW3 : Hid (RdAt w3 lo hi b n p (m1.raw s)) := HW3; replace HB3 : Hid _ := HB3)
        all_goals (
          go_wp2
          go_returns
          exact ⟨by rw [HA.out]; first | rfl | (show Ending.returned (.tuple #[.int .i64 (0 + x), .bool true]) = _; rw [Int.zero_add]), by rw [HE.out]; exact HW3.out, grown_trans HB2.out (grown_trans (grown_drew (grown_refl _ _)) HB3.out)⟩))

end Go.Proofs.YtfgpmdikkncckaaGreatDoor
