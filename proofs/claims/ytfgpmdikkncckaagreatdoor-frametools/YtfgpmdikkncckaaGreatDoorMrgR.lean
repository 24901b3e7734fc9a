/-
  Plain mathematics of layer 7 (reader): what a reader is (its range, its value, how many bytes and raw bits were taken), what looking for a symbol, taking one and taking raw bits makes of it. No condition; no program.
  Where a reader of the program lies: a block of five cells, its bytes in a block of their own, both between two bounds; and what stores and other calls make of it. No condition.
  What shift, Left, Rng, Get, widen and Take of package reader do to a reader that lies somewhere. Nothing else is turned.
  What bit and Raw of package reader do to a reader that lies somewhere. Nothing else is turned.
  Bytes that are appended to a list of bytes of the call's own: others, and noughts. No condition.
  What slices.Clone (of bytes) and New of package reader make: bytes of their own, a reader of its own. Nothing that was there is turned.
-/
import Derived.Test.YtfgpmdikkncckaaGreatDoorMrgW
import Derived.Test.YtfgpmdikkncckaaGreatDoorNums
import Derived.Laws.ShiftsVarLaws
import Derived.Test.YtfgpmdikkncckaaGreatDoorIntsAt
import Derived.Maps.AppendAt
import Derived.Lib.AppendZeros
import Derived.Lib.AppendZerosOnto
import Derived.Lib.SliceRun
namespace Go.Proofs.YtfgpmdikkncckaaGreatDoor
set_option linter.unusedVariables false
open Go.RowKit

/-- n bytes, noughts behind them. -/
structure Bx (n : Nat) (p : Nat → Int) : Prop where
  b : Byte p
  z : ∀ i, n ≤ i → p i = 0

/-- A reader: its range, its value, how many bytes were taken, how many raw bits. -/
structure Re where
  rng : Int
  val : Int
  tk : Nat
  nb : Nat

/-- .. between two symbols. -/
structure Re.Good (m : Re) : Prop where
  r1 : 65536 < m.rng
  r2 : m.rng ≤ 16777216
  v0 : 0 ≤ m.val
  v1 : m.val < m.rng

def Re.new (p : Nat → Int) : Re := ⟨16777216, p 0 * 65536 + p 1 * 256 + p 2, 3, 0⟩
def Re.get (m : Re) (t : Int) : Int := if t - 1 < m.val / (m.rng / t) then t - 1 else m.val / (m.rng / t)
/-- .. whatever is handed in. -/
def Re.getU (m : Re) (t : Int) : Int := if 1 ≤ t ∧ t ≤ 4096 then m.get t else 0
def Re.part (m : Re) (a b t : Int) : Int := if b = t then m.rng - a * (m.rng / t) else (b - a) * (m.rng / t)
def clampR (x r : Int) : Int := if x < 0 then 0 else if r - 1 < x then r - 1 else x
/-- A symbol, ahead of bytes being taken. -/
def Re.sym (m : Re) (a b t : Int) : Re := { m with rng := m.part a b t, val := clampR (m.val - a * (m.rng / t)) (m.part a b t) }
/-- A byte is taken. -/
def Re.grow (m : Re) (p : Nat → Int) : Re := { m with rng := m.rng * 256, val := m.val * 256 + p m.tk, tk := m.tk + 1 }
def Re.wide (m : Re) (p : Nat → Int) : Re := if m.rng ≤ 256 then (m.grow p).grow p else if m.rng ≤ 65536 then m.grow p else m
def Re.take (m : Re) (p : Nat → Int) (a b t : Int) : Re := (m.sym a b t).wide p
def Re.takeU (m : Re) (p : Nat → Int) (a b t : Int) : Re := if 0 ≤ a ∧ a < b ∧ b ≤ t ∧ t ≤ 4096 then m.take p a b t else m
/-- Raw bits are taken. -/
def Re.raw (m : Re) (k : Nat) : Re := { m with nb := m.nb + k }
def Re.left (m : Re) (n : Nat) : Int := 8 * (n : Int) - 8 * (m.tk : Int) - (m.nb : Int)
/-- How many raw bits are taken, whatever is asked for. -/
def rawK (n : Int) : Nat := if n < 0 then 0 else if 16 < n then 16 else n.toNat
theorem rawK_le (n : Int) : rawK n ≤ 16 := by unfold rawK; split; · omega
                                              split <;> omega

theorem rpart_bd {m : Re} {a b t : Int} (h1 : 65536 < m.rng) (h : May a b t) : 16 ≤ m.rng / t ∧ m.rng / t ≤ m.rng ∧ 0 ≤ a * (m.rng / t) ∧ a * (m.rng / t) ≤ m.rng ∧ (b - a) * (m.rng / t) ≤ m.rng ∧ 16 ≤ m.part a b t ∧ m.part a b t ≤ m.rng :=
  part_bd (m := ⟨m.rng, fun _ => 0, 3, fun _ => 0, 0⟩) h1 h
theorem clampR_bd {x r : Int} (h : 0 < r) : 0 ≤ clampR x r ∧ clampR x r < r := by
  unfold clampR; split
  · omega
  · split <;> omega
theorem new_good {n : Nat} {p : Nat → Int} (h : Bx n p) : (Re.new p).Good := by
  have h0 := h.b 0
  have h1 := h.b 1
  have h2 := h.b 2
  exact ⟨by show (65536 : Int) < 16777216; decide, Int.le_refl _, by show 0 ≤ p 0 * 65536 + p 1 * 256 + p 2; omega, by show p 0 * 65536 + p 1 * 256 + p 2 < 16777216; omega⟩
theorem take_good {n : Nat} {p : Nat → Int} {m : Re} {a b t : Int} (hp : Bx n p) (h : m.Good) (hm : May a b t) : (m.take p a b t).Good := by
  have hb := rpart_bd h.r1 hm
  have hr := h.r2
  have hc := clampR_bd (x := m.val - a * (m.rng / t)) (r := m.part a b t) (by omega)
  have k0 := hp.b m.tk
  have k1 := hp.b (m.tk + 1)
  unfold Re.take Re.wide
  show (if m.part a b t ≤ 256 then _ else _ : Re).Good
  unfold Re.grow Re.sym
  generalize m.part a b t = g at *
  generalize clampR (m.val - a * (m.rng / t)) g = c at *
  split
  · exact ⟨by show 65536 < g * 256 * 256; omega, by show g * 256 * 256 ≤ _; omega, by show 0 ≤ (c * 256 + p m.tk) * 256 + p (m.tk + 1); omega, by show (c * 256 + p m.tk) * 256 + p (m.tk + 1) < g * 256 * 256; omega⟩
  · show (if g ≤ 65536 then _ else _ : Re).Good
    split
    · exact ⟨by show 65536 < g * 256; omega, by show g * 256 ≤ _; omega, by show 0 ≤ c * 256 + p m.tk; omega, by show c * 256 + p m.tk < g * 256; omega⟩
    · exact ⟨by show 65536 < g; omega, by show g ≤ _; omega, hc.1, hc.2⟩
theorem takeU_good {n : Nat} {p : Nat → Int} {m : Re} (hp : Bx n p) (h : m.Good) (a b t : Int) : (m.takeU p a b t).Good := by
  unfold Re.takeU; split
  · rename_i hm; exact take_good hp h hm
  · exact h
theorem take_n (m : Re) (p : Nat → Int) (a b t : Int) : m.tk ≤ (m.take p a b t).tk ∧ (m.take p a b t).tk ≤ m.tk + 2 ∧ (m.take p a b t).nb = m.nb := by
  unfold Re.take Re.wide; split
  · exact ⟨Nat.le_add_right m.tk 2, Nat.le_refl _, rfl⟩
  · split
    · exact ⟨Nat.le_add_right m.tk 1, Nat.le_add_right (m.tk + 1) 1, rfl⟩
    · exact ⟨Nat.le_refl _, Nat.le_add_right m.tk 2, rfl⟩
theorem takeU_n (m : Re) (p : Nat → Int) (a b t : Int) : m.tk ≤ (m.takeU p a b t).tk ∧ (m.takeU p a b t).tk ≤ m.tk + 2 ∧ (m.takeU p a b t).nb = m.nb := by
  unfold Re.takeU; split
  · exact take_n m p a b t
  · exact ⟨Nat.le_refl _, Nat.le_add_right m.tk 2, rfl⟩
theorem rawRe_good {m : Re} (h : m.Good) (k : Nat) : (m.raw k).Good := ⟨h.r1, h.r2, h.v0, h.v1⟩
theorem get_bd {m : Re} (h : m.Good) {t : Int} (h1 : 1 ≤ t) (h2 : t ≤ 4096) : 0 ≤ m.get t ∧ m.get t < t ∧ 16 ≤ m.rng / t := by
  have hr : 16 ≤ m.rng / t := by
    have := h.r1
    rw [Int.le_ediv_iff_mul_le (by omega)]; omega
  have hq : 0 ≤ m.val / (m.rng / t) := Int.ediv_nonneg h.v0 (by omega)
  unfold Re.get
  refine ⟨?_, ?_, hr⟩ <;> split <;> omega

theorem getU_bd {m : Re} (h : m.Good) (t : Int) : 0 ≤ m.getU t ∧ m.getU t ≤ 4095 := by
  unfold Re.getU; split
  · rename_i ht
    have := get_bd h ht.1 ht.2
    omega
  · omega

/-- Raw bit i of n bytes. -/
def rbit (n : Nat) (p : Nat → Int) (i : Nat) : Int := if i / 8 < n then p (n - 1 - i / 8) / 2 ^ (i % 8) % 2 else 0
/-- k raw bits from the one at i on, the first one lowest. -/
def rsum (n : Nat) (p : Nat → Int) (i : Nat) : Nat → Int
  | 0 => 0
  | k + 1 => rsum n p i k + rbit n p (i + k) * 2 ^ k
theorem rbit_bd (n : Nat) (p : Nat → Int) (i : Nat) : 0 ≤ rbit n p i ∧ rbit n p i ≤ 1 := by
  unfold rbit; split <;> omega
theorem rsum_bd (n : Nat) (p : Nat → Int) (i : Nat) : ∀ k, 0 ≤ rsum n p i k ∧ rsum n p i k < 2 ^ k
  | 0 => ⟨Int.le_refl _, by show (0 : Int) < 2 ^ 0; decide⟩
  | k + 1 => by
    have h := rsum_bd n p i k
    have hb := rbit_bd n p (i + k)
    rw [rsum, Int.pow_succ]
    have hp : (0 : Int) < 2 ^ k := Int.pow_pos (by decide)
    generalize (2 : Int) ^ k = q at *
    obtain e | e : rbit n p (i + k) = 0 ∨ rbit n p (i + k) = 1 := by omega
    · rw [e]; omega
    · rw [e]; omega
theorem rsum_at (n : Nat) (p : Nat → Int) (i : Nat) : ∀ k j, j < k → rsum n p i k / 2 ^ j % 2 = rbit n p (i + j)
  | 0, j, h => by omega
  | k + 1, j, h => by
    have hs := rsum_bd n p i k
    have hb := rbit_bd n p (i + k)
    rw [rsum]
    by_cases e : j = k
    · subst e
      rw [Int.add_mul_ediv_right _ _ (Int.ne_of_gt (Int.pow_pos (by decide))), Int.ediv_eq_zero_of_lt hs.1 hs.2]
      omega
    · have hj : j < k := by omega
      rw [← rsum_at n p i k j hj]
      obtain ⟨d, rfl⟩ : ∃ d, k = j + (d + 1) := ⟨k - j - 1, by omega⟩
      have e1 : rbit n p (i + (j + (d + 1))) * 2 ^ (j + (d + 1)) = (rbit n p (i + (j + (d + 1))) * 2 ^ d * 2) * 2 ^ j := by
        rw [Int.pow_add, Int.pow_succ, Int.mul_comm ((2 : Int) ^ j), ← Int.mul_assoc, ← Int.mul_assoc]
      rw [e1, Int.add_mul_ediv_right _ _ (Int.ne_of_gt (Int.pow_pos (by decide)))]
      omega

/-- The number of the first so many digits to the base 256. -/
def numR (D : Nat → Int) : Nat → Int
  | 0 => 0
  | k + 1 => numR D k * 256 + D k
def p256 : Nat → Int
  | 0 => 1
  | k + 1 => p256 k * 256
theorem p256_pos : ∀ k, 0 < p256 k
  | 0 => by decide
  | k + 1 => by have := p256_pos k; rw [p256]; omega
theorem num_bd {D : Nat → Int} (h : Byte D) : ∀ k, 0 ≤ numR D k ∧ numR D k < p256 k
  | 0 => ⟨Int.le_refl _, by show (0 : Int) < 1; decide⟩
  | k + 1 => by have := num_bd h k; have hd := h k; rw [numR, p256]; omega
theorem num_congr {D E : Nat → Int} : ∀ k, (∀ i, i < k → D i = E i) → numR D k = numR E k
  | 0, _ => rfl
  | k + 1, h => by rw [numR, numR, num_congr k (fun i hi => h i (by omega)), h k (by omega)]
/-- What adding makes of the number, where it does not grow too long. -/
theorem num_add : ∀ (k : Nat) (n : Int) (f : Nat → Int), Byte f → 0 ≤ n → numR f k + n < p256 k → numR (addF k n f) k = numR f k + n
  | 0, n, f, _, h0, h => by
    have : numR f 0 + n < 1 := h
    have e : numR f 0 = 0 := rfl
    rw [e] at this ⊢
    show (0 : Int) = _
    omega
  | k + 1, n, f, hf, h0, h => by
    have hk := hf k
    rw [numR, p256] at h
    rw [addF, numR, numR]
    have hs : Byte (setF f k ((n + f k) % 256)) := hf.set k (by omega) (by omega)
    have e1 : numR (setF f k ((n + f k) % 256)) k = numR f k := num_congr k fun i hi => setF_other _ _ (by omega)
    rw [num_add k ((n + f k) / 256) _ hs (by omega) (by rw [e1]; omega), e1, addF_above _ _ _ _ (Nat.le_refl _), setF_same]
    omega

/-- The writer's number never grows too long. -/
structure Mo.Fit (m : Mo) : Prop where
  f : numR m.D m.nD + m.rng ≤ p256 m.nD
theorem fit_new : Mo.new.Fit := ⟨by decide⟩
/-- The number of the writer's end lies in the writer's range. -/
structure Mo.In (m e : Mo) : Prop where
  n : m.nD ≤ e.nD
  lo : numR m.D m.nD ≤ numR e.D m.nD
  hi : numR e.D m.nD < numR m.D m.nD + m.rng

theorem sym_num {m : Mo} {a b t : Int} (hg : m.Good) (hm : May a b t) (hf : m.Fit) : numR (m.sym a b t).D m.nD = numR m.D m.nD + a * (m.rng / t) ∧ a * (m.rng / t) + m.part a b t ≤ m.rng := by
  have hp := part_bd hg.r1 hm
  have hff := hf.f
  have key : a * (m.rng / t) + m.part a b t ≤ m.rng := by
    obtain ⟨a0, ab, bt, t1⟩ := hm
    have hrr : m.rng / t * t ≤ m.rng := Int.ediv_mul_le _ (by omega)
    unfold Mo.part
    split
    · omega
    · generalize m.rng / t = r at *
      have k6 : a * r + (b - a) * r = b * r := by rw [← Int.add_mul]; congr 1; omega
      have k7 : b * r ≤ t * r := Int.mul_le_mul_of_nonneg_right bt (by omega)
      have k8 : t * r = r * t := Int.mul_comm _ _
      omega
  refine ⟨?_, key⟩
  show numR (addF m.nD (a * (m.rng / t)) m.D) m.nD = _
  exact num_add _ _ _ hg.ok.d hp.2.2.1 (by omega)
theorem sym_fit {m : Mo} {a b t : Int} (hg : m.Good) (hm : May a b t) (hf : m.Fit) : (m.sym a b t).Fit := by
  obtain ⟨h1, h2⟩ := sym_num hg hm hf
  have := hf.f
  refine ⟨?_⟩
  show numR (m.sym a b t).D m.nD + m.part a b t ≤ p256 m.nD
  rw [h1]; omega
theorem grow_num {m : Mo} (h : m.Ok) : numR m.grow.D m.grow.nD = numR m.D m.nD * 256 := by
  show numR m.D (m.nD + 1) = _
  rw [numR, h.dz m.nD (Nat.le_refl _)]; omega
theorem grow_fit {m : Mo} (h : m.Ok) (hf : m.Fit) : m.grow.Fit := by
  have := hf.f
  refine ⟨?_⟩
  rw [grow_num h]
  show _ + m.rng * 256 ≤ p256 (m.nD + 1)
  rw [p256]; omega
theorem wide_fit {m : Mo} (h : m.Ok) (hf : m.Fit) : m.wide.Fit := by
  unfold Mo.wide; split
  · exact grow_fit (grow_ok h) (grow_fit h hf)
  · split
    · exact grow_fit h hf
    · exact hf
theorem put_fit {m : Mo} {a b t : Int} (hg : m.Good) (hm : May a b t) (hf : m.Fit) : (m.put a b t).Fit := wide_fit (sym_ok hg.ok a b t) (sym_fit hg hm hf)
theorem raw_fit {m : Mo} (hf : m.Fit) (k : Nat) (x : Int) : (Mo.raw k x m).Fit := by
  obtain ⟨h1, h2, h3, h4⟩ := raw_nR k x m
  refine ⟨?_⟩
  rw [h2, h3, h4]; exact hf.f

theorem in_self {m : Mo} (h : m.Good) : m.In m := by
  have := h.r1
  exact ⟨Nat.le_refl _, Int.le_refl _, by omega⟩
theorem in_grow {m e : Mo} (h : m.Ok) (he : e.Ok) (hi : m.grow.In e) : m.In e := by
  have h1 := hi.lo
  have h2 := hi.hi
  have hn : m.nD + 1 ≤ e.nD := hi.n
  have hb := he.d m.nD
  rw [grow_num h] at h1 h2
  have e1 : numR e.D m.grow.nD = numR e.D m.nD * 256 + e.D m.nD := rfl
  have e2 : m.grow.rng = m.rng * 256 := rfl
  rw [e1] at h1 h2
  rw [e2] at h2
  exact ⟨by omega, by omega, by omega⟩
theorem in_wide {m e : Mo} (h : m.Ok) (he : e.Ok) (hi : m.wide.In e) : m.In e := by
  unfold Mo.wide at hi
  split at hi
  · exact in_grow h he (in_grow (grow_ok h) he hi)
  · split at hi
    · exact in_grow h he hi
    · exact hi
theorem in_sym {m e : Mo} {a b t : Int} (hg : m.Good) (hm : May a b t) (hf : m.Fit) (hi : (m.sym a b t).In e) : m.In e := by
  obtain ⟨h1, h2⟩ := sym_num hg hm hf
  have hp := part_bd hg.r1 hm
  have k1 := hi.lo
  have k2 := hi.hi
  have k3 : m.nD ≤ e.nD := hi.n
  have e0 : (m.sym a b t).nD = m.nD := rfl
  have e1 : (m.sym a b t).rng = m.part a b t := rfl
  rw [e0, h1] at k1 k2
  rw [e1] at k2
  exact ⟨k3, by omega, by omega⟩
theorem in_raw {m e : Mo} (k : Nat) (x : Int) (hi : (Mo.raw k x m).In e) : m.In e := by
  obtain ⟨h1, h2, h3, h4⟩ := raw_nR k x m
  have k1 := hi.lo
  have k2 := hi.hi
  have k3 := hi.n
  rw [h2, h4] at k1
  rw [h2, h4, h3] at k2
  rw [h2] at k3
  exact ⟨k3, k1, k2⟩

/-- The reader that stands where the writer stood at m, of bytes whose first ones are the end's digits. -/
def Re.at (m e : Mo) : Re := ⟨m.rng, numR e.D m.nD - numR m.D m.nD, m.nD, m.nR⟩
theorem at_grow {m e : Mo} {p : Nat → Int} (h : m.Ok) (hp : ∀ i, i < e.nD → p i = e.D i) (hi : m.grow.In e) : (Re.at m e).grow p = Re.at m.grow e := by
  have hn : m.nD + 1 ≤ e.nD := hi.n
  unfold Re.grow Re.at
  have e1 : numR e.D m.grow.nD = numR e.D m.nD * 256 + e.D m.nD := rfl
  simp only [grow_num h, e1, hp m.nD (by omega)]
  show (⟨m.rng * 256, _, m.nD + 1, m.nR⟩ : Re) = ⟨m.rng * 256, _, m.nD + 1, m.nR⟩
  congr 1
  omega
theorem at_wide {m e : Mo} {p : Nat → Int} (h : m.Ok) (he : e.Ok) (hp : ∀ i, i < e.nD → p i = e.D i) (hi : m.wide.In e) : (Re.at m e).wide p = Re.at m.wide e := by
  unfold Re.wide
  have e1 : (Re.at m e).rng = m.rng := rfl
  rw [e1]
  unfold Mo.wide at hi ⊢
  split at hi
  · rename_i h1
    rw [if_pos h1, if_pos h1, at_grow h hp (in_grow (grow_ok h) he hi), at_grow (grow_ok h) hp hi]
  · rename_i h1
    rw [if_neg h1, if_neg h1]
    split at hi
    · rename_i h2
      rw [if_pos h2, if_pos h2, at_grow h hp hi]
    · rename_i h2
      rw [if_neg h2, if_neg h2]
/-- What was put is read: a symbol. -/
theorem at_put {m e : Mo} {p : Nat → Int} {a b t : Int} (hg : m.Good) (hf : m.Fit) (hm : May a b t) (he : e.Ok) (hp : ∀ i, i < e.nD → p i = e.D i) (hi : (m.put a b t).In e) :
    (Re.at m e).take p a b t = Re.at (m.put a b t) e ∧ a ≤ (Re.at m e).get t ∧ (Re.at m e).get t < b := by
  have his : (m.sym a b t).In e := in_wide (sym_ok hg.ok a b t) he hi
  obtain ⟨h1, h2⟩ := sym_num hg hm hf
  have hpb := part_bd hg.r1 hm
  have k1 := his.lo
  have k2 := his.hi
  have e0 : (m.sym a b t).nD = m.nD := rfl
  have e1 : (m.sym a b t).rng = m.part a b t := rfl
  rw [e0, h1] at k1 k2
  rw [e1] at k2
  have hs : (Re.at m e).sym a b t = Re.at (m.sym a b t) e := by
    have q1 : (Re.at m e).part a b t = m.part a b t := rfl
    have q2 : (Re.at m e).rng = m.rng := rfl
    have q3 : (Re.at m e).val = numR e.D m.nD - numR m.D m.nD := rfl
    unfold Re.sym
    rw [q1, q2, q3]
    show (⟨m.part a b t, _, m.nD, m.nR⟩ : Re) = ⟨m.part a b t, numR e.D m.nD - numR (m.sym a b t).D m.nD, m.nD, m.nR⟩
    rw [h1]
    congr 1
    unfold clampR
    rw [if_neg (by omega), if_neg (by omega)]
    omega
  refine ⟨?_, ?_⟩
  · unfold Re.take
    rw [hs, at_wide (sym_ok hg.ok a b t) he hp hi]
    rfl
  · unfold Re.get
    have q2 : (Re.at m e).rng = m.rng := rfl
    have q3 : (Re.at m e).val = numR e.D m.nD - numR m.D m.nD := rfl
    rw [q2, q3]
    obtain ⟨a0, ab, bt, t1⟩ := hm
    unfold Mo.part at k2
    generalize m.rng / t = r at *
    generalize numR e.D m.nD = y at *
    generalize numR m.D m.nD = y' at *
    obtain ⟨v, hv⟩ : ∃ v, y - y' = v := ⟨_, rfl⟩
    rw [hv]
    have hv1 : a * r ≤ v := by omega
    have l1 : a ≤ v / r := by rw [Int.le_ediv_iff_mul_le (by omega)]; exact hv1
    by_cases hbt : b = t
    · subst hbt
      constructor <;> split <;> omega
    · rw [if_neg hbt] at k2
      have k6 : a * r + (b - a) * r = b * r := by rw [← Int.add_mul]; congr 1; omega
      have l2 : v / r < b := by rw [Int.ediv_lt_iff_lt_mul (by omega)]; omega
      constructor <;> split <;> omega

/-- The end's raw bits. -/
theorem raw_at : ∀ (k : Nat) (x : Int) (m : Mo) (j : Nat), (j < m.nR → (Mo.raw k x m).R j = m.R j) ∧ (m.nR ≤ j → j < m.nR + k → (Mo.raw k x m).R j = x / 2 ^ (j - m.nR) % 2)
  | 0, x, m, j => ⟨fun _ => rfl, fun h1 h2 => by omega⟩
  | k + 1, x, m, j => by
    have ih := raw_at k x m j
    have hn := (raw_nR k x m).1
    rw [raw_succ]
    have e : ((Mo.raw k x m).bit (x / 2 ^ k % 2)).R j = setF (Mo.raw k x m).R (Mo.raw k x m).nR (x / 2 ^ k % 2) j := rfl
    rw [e, hn]
    constructor
    · intro h; rw [setF_other _ _ (by omega)]; exact ih.1 h
    · intro h1 h2
      by_cases hj : j = m.nR + k
      · subst hj; rw [setF_same, show m.nR + k - m.nR = k by omega]
      · rw [setF_other _ _ hj]; exact ih.2 h1 (by omega)
/-- A raw bit of a packet is the writer's. -/
theorem pk_rbit {e : Mo} {z : Nat} {p : Nat → Int} (he : e.Ok) (hz : 0 ≤ e.left z) (hp : ∀ i, i < z → p i = e.pk z i) {i : Nat} (hi : i < e.nR) : rbit z p i = e.R i := by
  unfold Mo.left at hz
  have h8 : i / 8 < z := by omega
  unfold rbit
  rw [if_pos h8, hp _ (by omega)]
  unfold Mo.pk
  rw [he.dz _ (by omega), show z - 1 - (z - 1 - i / 8) = i / 8 by omega]
  have l := Nat.mod_lt i (show 0 < 8 by decide)
  have ei := Nat.div_add_mod i 8
  have hb := he.b
  generalize i / 8 = q at *
  generalize i % 8 = r at *
  subst ei
  unfold rawB
  have b0 := hb (q * 8 + 0)
  have b1 := hb (q * 8 + 1)
  have b2 := hb (q * 8 + 2)
  have b3 := hb (q * 8 + 3)
  have b4 := hb (q * 8 + 4)
  have b5 := hb (q * 8 + 5)
  have b6 := hb (q * 8 + 6)
  have b7 := hb (q * 8 + 7)
  rw [show 8 * q + r = q * 8 + r by omega]
  match r, l with
  | 0, _ => omega
  | 1, _ => omega
  | 2, _ => omega
  | 3, _ => omega
  | 4, _ => omega
  | 5, _ => omega
  | 6, _ => omega
  | 7, _ => omega
theorem rsum_of {n : Nat} {p : Nat → Int} {i : Nat} {x : Int} (hx : 0 ≤ x) : ∀ k, (∀ j, j < k → rbit n p (i + j) = x / 2 ^ j % 2) → rsum n p i k = x % 2 ^ k
  | 0, _ => by rw [rsum]; simp [Int.emod_one]
  | k + 1, h => by
    rw [rsum, rsum_of hx k (fun j hj => h j (by omega)), h k (by omega)]
    obtain ⟨y, rfl⟩ : ∃ y : Nat, x = y := ⟨x.toNat, by omega⟩
    have e := Nat.mod_pow_succ (x := y) (b := 2) (k := k)
    have e' : ((y % 2 ^ (k + 1) : Nat) : Int) = ((y % 2 ^ k + 2 ^ k * (y / 2 ^ k % 2) : Nat) : Int) := by rw [e]
    push_cast at e'
    rw [e', Int.mul_comm ((2 : Int) ^ k)]
end Go.Proofs.YtfgpmdikkncckaaGreatDoor
namespace Go.Proofs.YtfgpmdikkncckaaGreatDoor
set_option linter.unusedVariables false
open Go.ChangeShapes Go.WideShapes Go.ChangeAt Go.RowKit

structure RCells (w : World) (lo hi b : Nat) (v : Value) (n : Nat) (p : Nat → Int) (r x : Int) (k l : Nat) : Prop where
  row : w.heap[b]? = some (.cells #[v, .int .u32 r, .int .u32 x, .int .i64 k, .int .i64 l] 78 (0, 0))
  d : OwnN w lo 5 .u8 v n p
  b0 : lo ≤ b
  b1 : b < hi
  vh : ∀ g, v.ownBlock = some g → g < hi ∧ g ≠ b

section
variable {w w' : World} {lo hi b n k l : Nat} {v : Value} {p : Nat → Int} {r x : Int}
theorem RCells.lt (h : RCells w lo hi b v n p r x k l) : b < w.heap.size := lt_size_of_block h.row
theorem RCells.c0 (h : RCells w lo hi b v n p r x k l) : w.cell? ⟨b, 0, none⟩ = some v := row_cell h.row 0 rfl
theorem RCells.c1 (h : RCells w lo hi b v n p r x k l) : w.cell? ⟨b, 1, none⟩ = some (.int .u32 r) := row_cell h.row 1 rfl
theorem RCells.c2 (h : RCells w lo hi b v n p r x k l) : w.cell? ⟨b, 2, none⟩ = some (.int .u32 x) := row_cell h.row 2 rfl
theorem RCells.c3 (h : RCells w lo hi b v n p r x k l) : w.cell? ⟨b, 3, none⟩ = some (.int .i64 k) := row_cell h.row 3 rfl
theorem RCells.c4 (h : RCells w lo hi b v n p r x k l) : w.cell? ⟨b, 4, none⟩ = some (.int .i64 l) := row_cell h.row 4 rfl
theorem RCells.fz (h : RCells w lo hi b v n p r x k l) (o : Nat) : w.frozen? ⟨b, o, none⟩ = false := frozen_of_row _ _ o _ _ h.row
theorem RCells.kept {row : Option Nat} (h : RCells w lo hi b v n p r x k l) (hg : w.grownBy w' row) (hrow : ∀ q, row = some q → q < lo ∨ hi ≤ q) : RCells w' lo hi b v n p r x k l := by
  have hne : ∀ q, lo ≤ q → q < hi → some q ≠ row := by
    intro q h1 h2 e
    have := hrow q e.symm
    omega
  refine ⟨(hg.block b h.lt (hne b h.b0 h.b1)).trans h.row, h.d.kept hg ?_, h.b0, h.b1, h.vh⟩
  cases hb : v.ownBlock with
  | none => exact .inl rfl
  | some q => right; exact hne q (h.d.lt hb).1 (h.vh q hb).1
/-- A cell of the reader's own block is written. -/
theorem RCells.own (h : RCells w lo hi b v n p r x k l) (o : Nat) (u : Value) : OwnN (w.setCell ⟨b, o, none⟩ u) lo 5 .u8 v n p := by
  refine h.d.kept (grown_setb w b o u) ?_
  cases hb : v.ownBlock with
  | none => exact .inl rfl
  | some q => right; intro e; cases e; exact (h.vh b hb).2 rfl
theorem RCells.set1 (h : RCells w lo hi b v n p r x k l) (y : Int) : RCells (w.setCell ⟨b, 1, none⟩ (.int .u32 y)) lo hi b v n p y x k l := ⟨heap_set_row h.row, h.own _ _, h.b0, h.b1, h.vh⟩
theorem RCells.set2 (h : RCells w lo hi b v n p r x k l) (y : Int) : RCells (w.setCell ⟨b, 2, none⟩ (.int .u32 y)) lo hi b v n p r y k l := ⟨heap_set_row h.row, h.own _ _, h.b0, h.b1, h.vh⟩
theorem RCells.set3 (h : RCells w lo hi b v n p r x k l) (y : Nat) : RCells (w.setCell ⟨b, 3, none⟩ (.int .i64 y)) lo hi b v n p r x y l := ⟨heap_set_row h.row, h.own _ _, h.b0, h.b1, h.vh⟩
theorem RCells.set4 (h : RCells w lo hi b v n p r x k l) (y : Nat) : RCells (w.setCell ⟨b, 4, none⟩ (.int .i64 y)) lo hi b v n p r x k y := ⟨heap_set_row h.row, h.own _ _, h.b0, h.b1, h.vh⟩
theorem RCells.drew (h : RCells w lo hi b v n p r x k l) : RCells w.drew lo hi b v n p r x k l := h.kept (grown_drew (grown_refl w none)) (by intro q e; cases e)
end

/-- A reader of n bytes p lies at block b, and is m. -/
def RdAt (w : World) (lo hi b n : Nat) (p : Nat → Int) (m : Re) : Prop := ∃ v, RCells w lo hi b v n p m.rng m.val m.tk m.nb
theorem RdAt.kept {w w' : World} {lo hi b n : Nat} {p : Nat → Int} {m : Re} {row : Option Nat} (h : RdAt w lo hi b n p m) (hg : w.grownBy w' row) (hrow : ∀ q, row = some q → q < lo ∨ hi ≤ q) : RdAt w' lo hi b n p m := by
  obtain ⟨v, h⟩ := h
  exact ⟨v, h.kept hg hrow⟩
theorem RdAt.keep {w w' : World} {lo hi b n : Nat} {p : Nat → Int} {m : Re} (h : RdAt w lo hi b n p m) (hg : w.grownBy w' none) : RdAt w' lo hi b n p m := h.kept hg (by intro q e; cases e)
theorem RdAt.lt {w : World} {lo hi b n : Nat} {p : Nat → Int} {m : Re} (h : RdAt w lo hi b n p m) : lo ≤ b ∧ b < hi ∧ b < w.heap.size := by
  obtain ⟨v, h⟩ := h
  exact ⟨h.b0, h.b1, h.lt⟩
end Go.Proofs.YtfgpmdikkncckaaGreatDoor
namespace Go.Proofs.YtfgpmdikkncckaaGreatDoor
set_option linter.unusedVariables false
open Go.ChangeShapes Go.WideShapes Go.ChangeAt Go.RowKit

theorem or_u32 {x y : Int} {e : Nat} (hx : 0 ≤ x) (hx1 : x < 2 ^ e) (hy : 0 ≤ y) (h : y * 2 ^ e < 4294967296) (he : x < 4294967296) : bits BinOp.or IntKind.u32 (y * 2 ^ e) x = y * 2 ^ e + x := by
  obtain ⟨a, rfl⟩ : ∃ a : Nat, x = a := ⟨x.toNat, by omega⟩
  obtain ⟨c, rfl⟩ : ∃ c : Nat, y = c := ⟨y.toNat, by omega⟩
  have ha : a < 2 ^ e := by
    have : ((a : Nat) : Int) < ((2 ^ e : Nat) : Int) := by push_cast; exact hx1
    exact Int.ofNat_lt.1 this
  have ec : (c : Int) * 2 ^ e = ((2 ^ e * c : Nat) : Int) := by push_cast; rw [Int.mul_comm]
  have key := Nat.two_pow_add_eq_or_of_lt ha c
  have hlt : 2 ^ e * c < 2 ^ 32 := by rw [ec] at h; omega
  have hlt2 : a < 2 ^ 32 := by omega
  have hor : 2 ^ e * c ||| a < 2 ^ 32 := Nat.or_lt_two_pow hlt hlt2
  rw [ec]
  show IntKind.u32.wrap ((BitVec.ofInt 32 ((2 ^ e * c : Nat) : Int) ||| BitVec.ofInt 32 (a : Int)).toNat : Nat) = _
  rw [BitVec.toNat_or, BitVec.toNat_ofInt, BitVec.toNat_ofInt]
  have m1 : (((2 ^ e * c : Nat) : Int) % ((2 ^ 32 : Nat) : Int)).toNat = 2 ^ e * c := by rw [Int.emod_eq_of_lt (by omega) (by omega), Int.toNat_natCast]
  have m2 : ((a : Int) % ((2 ^ 32 : Nat) : Int)).toNat = a := by rw [Int.emod_eq_of_lt (by omega) (by omega), Int.toNat_natCast]
  rw [m1, m2]
  have hor' : ((2 ^ e * c ||| a : Nat) : Int) < 4294967296 := by omega
  rw [wrap_u32 (by omega) hor', ← key]
  push_cast
  rfl

set_option maxRecDepth 20000 in
theorem shift_any (w : World) (lo hi b : Nat) (v : Value) (n : Nat) (p : Nat → Int) (r x : Int) (k l : Nat) (hn : n ≤ 100000) (hk : k ≤ 900000) (x0 : 0 ≤ x) (x1 : x < 16777216) (hp : Hid (Bx n p)) (h : Hid (RCells w lo hi b v n p r x k l)) :
    Calls Tryz.prog 33 #[.pointer (some ⟨b, 0, none⟩)] w fun e w' => e = .returned (.tuple #[]) ∧ RCells w' lo hi b v n p r (x * 256 + p k) (k + 1) l ∧ w.grownBy w' (some b) := by
  have h2 := h.out.c2
  have fz := h.out.fz
  have ni : (n : Int) ≤ 100000 := by omega
  have ki : (k : Int) ≤ 900000 := by omega
  have e4 := wrap_u32 (x := x * 256) (by omega) (by omega)
  have HS : Hid _ := h.out.set2 (x * 256)
  have d0 := HS.out.c0
  have d2 := HS.out.c2
  have d3 := HS.out.c3
  by_cases hkn : k < n
  · obtain ⟨g, cap, rfl, g0, g1, gc, gm⟩ := h.out.d.form (by omega)
    have hb := hp.out.b k
    have cc := HS.out.d.cell hkn
    have e5 := wrap_u32 (x := p k) (by omega) (by omega)
    have e6 : bits BinOp.or IntKind.u32 (x * 256) (p k) = x * 256 + p k := or_u32 (e := 8) (by omega) (by omega) x0 (by omega) (by omega)
    have kn : (k : Int) < n := by omega
    go_enter Tryz.func33, Tryz.ntmps33
    go_wp2
    go_region
    go_wp2
    go_region
    go_wp2
    go_end0
    exact ⟨rfl, ((HS.out.set2 _).set3 (k + 1)).drew.drew, grown_drew (grown_drew (wgrown_set (wgrown_set (wgrown_set (grown_refl _ _) _) _) _))⟩
  · obtain ⟨ao, cap, rfl, hc1, hc2, _⟩ := h.out.d.slice
    have e7 : p k = 0 := hp.out.z k (by omega)
    rw [e7, Int.add_zero]
    have kn : ¬ ((k : Int) < n) := by omega
    go_enter Tryz.func33, Tryz.ntmps33
    go_wp2
    go_region
    go_wp2
    go_end0
    exact ⟨rfl, (HS.out.set3 (k + 1)).drew, grown_drew (wgrown_set (wgrown_set (grown_refl _ _) _) _)⟩

theorem rdleft (w : World) (lo hi b n : Nat) (p : Nat → Int) (m : Re) (hn : n ≤ 100000) (hk : m.tk ≤ 900000) (hl : m.nb ≤ 900000) (h : Hid (RdAt w lo hi b n p m)) :
    Calls Tryz.prog 19 #[.pointer (some ⟨b, 0, none⟩)] w fun e w' => e = .returned (.int .i64 (m.left n)) ∧ w' = w.drew := by
  obtain ⟨v, h⟩ := h
  obtain ⟨ao, cap, rfl, hc1, hc2, _⟩ := h.d.slice
  have h0 := h.c0
  have h3 := h.c3
  have h4 := h.c4
  have ni : (n : Int) ≤ 100000 := by omega
  have ki : (m.tk : Int) ≤ 900000 := by omega
  have li : (m.nb : Int) ≤ 900000 := by omega
  have el : m.left n = 8 * ((n : Int) - m.tk) - m.nb := by unfold Re.left; omega
  rw [el]
  clear h el
  go_enter Tryz.func19, Tryz.ntmps19
  go_wp2
  go_region
  go_wp2
  go_ret
  exact ⟨rfl, rfl⟩

theorem rdrng (w : World) (lo hi b n : Nat) (p : Nat → Int) (m : Re) (h : Hid (RdAt w lo hi b n p m)) :
    Calls Tryz.prog 126 #[.pointer (some ⟨b, 0, none⟩)] w fun e w' => e = .returned (.int .u32 m.rng) ∧ w' = w := by
  obtain ⟨v, h⟩ := h
  have h1 := h.c1
  clear h
  go_enter Tryz.func126, Tryz.ntmps126
  go_wp2
  go_ret
  exact ⟨rfl, rfl⟩

theorem rdget (w : World) (lo hi b n : Nat) (p : Nat → Int) (m : Re) (t : Int) (hg : Hid m.Good) (h : Hid (RdAt w lo hi b n p m)) :
    Calls Tryz.prog 124 #[.pointer (some ⟨b, 0, none⟩), .int .i64 t] w fun e w' => e = .returned (.int .i64 (m.getU t)) ∧ w' = w := by
  obtain ⟨v, h⟩ := h
  have h1 := h.c1
  have h2 := h.c2
  clear h
  unfold Re.getU
  by_cases ht : 1 ≤ t
  · by_cases ht2 : t ≤ 4096
    · rw [if_pos ⟨ht, ht2⟩]
      obtain ⟨g0, g1, g2⟩ := get_bd hg.out ht ht2
      have r1 := hg.out.r1
      have r2 := hg.out.r2
      have v0 := hg.out.v0
      have v1 := hg.out.v1
      have e1 : m.rng.tdiv t = m.rng / t := Int.tdiv_eq_ediv_of_nonneg (by omega)
      have e2 : m.val.tdiv (m.rng / t) = m.val / (m.rng / t) := Int.tdiv_eq_ediv_of_nonneg v0
      have q0 : 0 ≤ m.val / (m.rng / t) := Int.ediv_nonneg v0 (by omega)
      have q1 : m.val / (m.rng / t) ≤ m.val := Int.ediv_le_self _ v0
      have q2 : m.rng / t ≤ m.rng := Int.ediv_le_self _ (by omega)
      unfold Re.get at *
      generalize m.rng / t = q at *
      generalize m.val / q = s at *
      have w1 := wrap_u32 (x := t) (by omega) (by omega)
      have w2 := wrap_u32 (x := q) (by omega) (by omega)
      have w3 := wrap_u32 (x := s) (by omega) (by omega)
      have n0 : (m.rng == 0) = false := by simp; omega
      have n1 : ¬ (t = 0) := by omega
      have n2 : ¬ (q = 0) := by omega
      by_cases hs : t - 1 < s
      · rw [if_pos hs]
        go_enter Tryz.func124, Tryz.ntmps124
        go_wp2
        go_ret
        exact ⟨rfl, rfl⟩
      · rw [if_neg hs]
        have hs' : s ≤ t - 1 := by omega
        go_enter Tryz.func124, Tryz.ntmps124
        go_wp2
        go_ret
        exact ⟨rfl, rfl⟩
    · rw [if_neg (by omega)]
      have ht3 : 4096 < t := by omega
      go_enter Tryz.func124, Tryz.ntmps124
      go_wp2
      go_ret
      exact ⟨rfl, rfl⟩
  · rw [if_neg (by omega)]
    have ht3 : t < 1 := by omega
    go_enter Tryz.func124, Tryz.ntmps124
    go_wp2
    go_ret
    exact ⟨rfl, rfl⟩

/-- What widen does, said of the reader. -/
theorem rdwiden (w : World) (lo hi b n : Nat) (p : Nat → Int) (m : Re) (hn : n ≤ 100000) (hk : m.tk ≤ 800000) (r0 : 1 < m.rng) (r1 : m.rng ≤ 16777216) (v0 : 0 ≤ m.val) (v1 : m.val < m.rng) (hp : Hid (Bx n p)) (h : Hid (RdAt w lo hi b n p m)) :
    Calls Tryz.prog 129 #[.pointer (some ⟨b, 0, none⟩)] w fun e w' => e = .returned (.tuple #[]) ∧ RdAt w' lo hi b n p (m.wide p) ∧ w.grownBy w' (some b) := by
  obtain ⟨v, h⟩ := h
  have h1 := h.c1
  have fz := h.fz
  unfold Re.wide
  by_cases c1 : m.rng ≤ 256
  · rw [if_pos c1]
    have hb0 := hp.out.b m.tk
    have e1 := wrap_u32 (x := m.rng * 256) (by omega) (by omega)
    have e2 := wrap_u32 (x := m.rng * 256 * 256) (by omega) (by omega)
    have HS1 : Hid (RCells (w.setCell ⟨b, 1, none⟩ (.int .u32 (m.rng * 256))) lo hi b v n p (m.rng * 256) m.val m.tk m.nb) := h.set1 _
    have g1 : ¬ 65536 < m.rng := by omega
    have g2 : ¬ 65536 < m.rng * 256 := by omega
    have H : Hid _ := h
    clear h
    go_enter Tryz.func129, Tryz.ntmps129
    go_wp2
    refine wp_loop_rounds 3 ?_
    rw [rounds_succ]
    go_wp2_with (go_at_call 33; refine (shift_any _ lo hi b v n p (m.rng * 256) m.val m.tk m.nb hn (by omega) v0 (by omega) hp HS1).mono ?_; rintro e w1 ⟨rfl, HW1, HB1⟩; have c1 := HW1.c1; have fz1 := HW1.fz; replace HW1 : Hid (RCells w1 lo hi b v n p (m.rng * 256) (m.val * 256 + p m.tk) (m.tk + 1) m.nb) := HW1; replace HB1 : Hid _ := HB1)
    have HS2 : Hid (RCells (w1.setCell ⟨b, 1, none⟩ (.int .u32 (m.rng * 256 * 256))) lo hi b v n p (m.rng * 256 * 256) (m.val * 256 + p m.tk) (m.tk + 1) m.nb) := HW1.out.set1 _
    rw [rounds_succ]
    go_wp2_with (go_at_call 33; refine (shift_any _ lo hi b v n p (m.rng * 256 * 256) (m.val * 256 + p m.tk) (m.tk + 1) m.nb hn (by omega) (by omega) (by omega) hp HS2).mono ?_; rintro e w2 ⟨rfl, HW2, HB2⟩; have d1 := HW2.c1; replace HW2 : Hid (RCells w2 lo hi b v n p (m.rng * 256 * 256) ((m.val * 256 + p m.tk) * 256 + p (m.tk + 1)) (m.tk + 1 + 1) m.nb) := HW2; replace HB2 : Hid _ := HB2)
    rw [rounds_succ]
    go_wp2
    go_end0
    exact ⟨rfl, ⟨v, HW2.out⟩, grown_trans (wgrown_set (grown_trans (wgrown_set (grown_refl _ _) _) HB1.out) _) HB2.out⟩
  · rw [if_neg c1]
    by_cases c2 : m.rng ≤ 65536
    · rw [if_pos c2]
      have hb0 := hp.out.b m.tk
      have e1 := wrap_u32 (x := m.rng * 256) (by omega) (by omega)
      have HS1 : Hid (RCells (w.setCell ⟨b, 1, none⟩ (.int .u32 (m.rng * 256))) lo hi b v n p (m.rng * 256) m.val m.tk m.nb) := h.set1 _
      have g1 : ¬ 65536 < m.rng := by omega
      have g2 : 65536 < m.rng * 256 := by omega
      have H : Hid _ := h
      clear h
      go_enter Tryz.func129, Tryz.ntmps129
      go_wp2
      refine wp_loop_rounds 3 ?_
      rw [rounds_succ]
      go_wp2_with (go_at_call 33; refine (shift_any _ lo hi b v n p (m.rng * 256) m.val m.tk m.nb hn (by omega) v0 (by omega) hp HS1).mono ?_; rintro e w1 ⟨rfl, HW1, HB1⟩; have c1 := HW1.c1; have fz1 := HW1.fz; replace HW1 : Hid (RCells w1 lo hi b v n p (m.rng * 256) (m.val * 256 + p m.tk) (m.tk + 1) m.nb) := HW1; replace HB1 : Hid _ := HB1)
      rw [rounds_succ]
      go_wp2
      refine bodyPost_ret (results_none rfl _ _ _) rfl ?_
      exact ⟨rfl, ⟨v, HW1.out⟩, grown_trans (wgrown_set (grown_refl _ _) _) HB1.out⟩
    · rw [if_neg c2]
      have g2 : 65536 < m.rng := by omega
      have H : Hid _ := h
      clear h
      go_enter Tryz.func129, Tryz.ntmps129
      go_wp2
      refine wp_loop_rounds 3 ?_
      rw [rounds_succ]
      go_wp2
      refine bodyPost_ret (results_none rfl _ _ _) rfl ?_
      exact ⟨rfl, ⟨v, H.out⟩, grown_refl _ _⟩

theorem rdtake_bad (w : World) (b : Nat) (x y t : Int) (h : ¬ May x y t) :
    Calls Tryz.prog 127 #[.pointer (some ⟨b, 0, none⟩), .int .i64 x, .int .i64 y, .int .i64 t] w fun e w' => e = .returned (.tuple #[]) ∧ w' = w := by
  by_cases h1 : x < 0
  · go_enter Tryz.func127, Tryz.ntmps127
    go_wp2
    refine bodyPost_ret (results_none rfl _ _ _) rfl ?_
    exact ⟨rfl, rfl⟩
  · by_cases h2 : y ≤ x
    · go_enter Tryz.func127, Tryz.ntmps127
      go_wp2
      refine bodyPost_ret (results_none rfl _ _ _) rfl ?_
      exact ⟨rfl, rfl⟩
    · by_cases h3 : t < y
      · go_enter Tryz.func127, Tryz.ntmps127
        go_wp2
        refine bodyPost_ret (results_none rfl _ _ _) rfl ?_
        exact ⟨rfl, rfl⟩
      · have h4 : 4096 < t := by
          unfold May at h; omega
        clear h
        go_enter Tryz.func127, Tryz.ntmps127
        go_wp2
        refine bodyPost_ret (results_none rfl _ _ _) rfl ?_
        exact ⟨rfl, rfl⟩

set_option maxHeartbeats 1000000 in
theorem rdtake (w : World) (lo hi b n : Nat) (p : Nat → Int) (m : Re) (x y t : Int) (hn : n ≤ 100000) (hk : m.tk ≤ 800000) (hp : Hid (Bx n p)) (hg : Hid m.Good) (hm : Hid (May x y t)) (h : Hid (RdAt w lo hi b n p m)) :
    Calls Tryz.prog 127 #[.pointer (some ⟨b, 0, none⟩), .int .i64 x, .int .i64 y, .int .i64 t] w fun e w' => e = .returned (.tuple #[]) ∧ RdAt w' lo hi b n p (m.take p x y t) ∧ w.grownBy w' (some b) := by
  obtain ⟨v, h⟩ := h
  have hb := rpart_bd hg.out.r1 hm.out
  have r2 := hg.out.r2
  have v0 := hg.out.v0
  have v1 := hg.out.v1
  obtain ⟨a0, ab, bt, t1⟩ := hm.out
  have c1 := h.c1
  have c2 := h.c2
  have fz := h.fz
  have eq : m.rng.tdiv t = m.rng / t := Int.tdiv_eq_ediv_of_nonneg (by omega)
  have hc := clampR_bd (x := m.val - x * (m.rng / t)) (r := m.part x y t) (by omega)
  have hgr : (m.sym x y t).rng = m.part x y t := rfl
  have hgv : (m.sym x y t).val = clampR (m.val - x * (m.rng / t)) (m.part x y t) := rfl
  have hgt : (m.sym x y t).tk = m.tk := rfl
  have hgn : (m.sym x y t).nb = m.nb := rfl
  have HP : Hid (m.take p x y t = (m.sym x y t).wide p) := rfl
  rw [HP.out]
  generalize m.sym x y t = s at *
  obtain ⟨sr, sv, st, sn⟩ := s
  simp only at hgr hgv hgt hgn
  subst hgt hgn
  have q0 : ¬ (t = 0) := by omega
  have H : Hid (RCells w lo hi b v n p m.rng m.val m.tk m.nb) := h
  clear h HP
  unfold Re.part at hb hc hgr hgv
  generalize m.rng / t = q at *
  generalize hu : x * q = u at *
  have w1 := wrap_u32 (x := t) (by omega) (by omega)
  have w2 := wrap_u32 (x := x) (by omega) (by omega)
  have w3 := wrap_u32 (x := u) (by omega) (by omega)
  have w4 := wrap_u32 (x := y - x) (by omega) (by omega)
  have w5 := wrap_u32 (x := q) (by omega) (by omega)
  obtain ⟨g, hgg⟩ : ∃ g, (if y = t then m.rng - u else (y - x) * q) = g := ⟨_, rfl⟩
  rw [hgg] at hb hc hgr hgv
  subst hgr
  have w6 := wrap_u32 (x := sr) (by omega) (by omega)
  have hsv : (m.val ≤ u ∧ sv = 0) ∨ (¬ m.val ≤ u ∧ sr - 1 < m.val - u ∧ sv = sr - 1) ∨ (¬ m.val ≤ u ∧ m.val - u ≤ sr - 1 ∧ sv = m.val - u) := by
    rw [hgv]; unfold clampR
    by_cases z1 : m.val ≤ u
    · refine .inl ⟨z1, ?_⟩
      split
      · rfl
      · rw [if_neg (by omega)]; omega
    · rw [if_neg (by omega)]
      by_cases z2 : sr - 1 < m.val - u
      · exact .inr (.inl ⟨z1, z2, if_pos z2⟩)
      · exact .inr (.inr ⟨z1, by omega, if_neg z2⟩)
  rw [← hgv] at hc
  clear hgv
  have HS : Hid (RdAt ((w.setCell ⟨b, 1, none⟩ (.int .u32 sr)).setCell ⟨b, 2, none⟩ (.int .u32 sv)) lo hi b n p ⟨sr, sv, m.tk, m.nb⟩) := ⟨v, (H.out.set1 sr).set2 sv⟩
  have HC : Hid (0 ≤ sv ∧ sv < sr ∧ 1 < sr ∧ sr ≤ 16777216) := by show _ ∧ _; omega
  have w7 := wrap_u32 (x := sv) (by omega) (by omega)
  have u0 : 0 ≤ u := by omega
  have u1 : u ≤ 16777216 := by omega
  have s0 : 16 ≤ sr := by omega
  have s1 : sr ≤ 16777216 := by omega
  clear hb hc hm hg
  by_cases hyt : y = t
  · rw [if_pos hyt] at hgg
    subst hyt
    rcases hsv with ⟨z1, rfl⟩ | ⟨z1, z2, rfl⟩ | ⟨z1, z2, rfl⟩
    · have z2 : m.val - u ≤ sr - 1 := by omega
      have z3 : m.val - u ≤ 0 := by omega
      go_enter Tryz.func127, Tryz.ntmps127
      go_wp2_with (go_at_call 129; refine (rdwiden _ lo hi b n p ⟨sr, 0, m.tk, m.nb⟩ hn hk HC.out.2.2.1 HC.out.2.2.2 HC.out.1 HC.out.2.1 hp HS).mono ?_; rintro e w9 ⟨rfl, HA, HB⟩; replace HA : Hid _ := HA; replace HB : Hid _ := HB)
      go_end0
      exact ⟨rfl, HA.out, grown_trans (wgrown_set (wgrown_set (grown_refl _ _) _) _) HB.out⟩
    · exact absurd z2 (by omega)
    · have z3 : u < m.val := by omega
      go_enter Tryz.func127, Tryz.ntmps127
      go_wp2_with (go_at_call 129; refine (rdwiden _ lo hi b n p ⟨sr, m.val - u, m.tk, m.nb⟩ hn hk HC.out.2.2.1 HC.out.2.2.2 HC.out.1 HC.out.2.1 hp HS).mono ?_; rintro e w9 ⟨rfl, HA, HB⟩; replace HA : Hid _ := HA; replace HB : Hid _ := HB)
      go_end0
      exact ⟨rfl, HA.out, grown_trans (wgrown_set (wgrown_set (grown_refl _ _) _) _) HB.out⟩
  · rw [if_neg hyt] at hgg
    rcases hsv with ⟨z1, rfl⟩ | ⟨z1, z2, rfl⟩ | ⟨z1, z2, rfl⟩
    · have z2 : m.val - u ≤ sr - 1 := by omega
      have z3 : m.val - u ≤ 0 := by omega
      go_enter Tryz.func127, Tryz.ntmps127
      go_wp2_with (go_at_call 129; refine (rdwiden _ lo hi b n p ⟨sr, 0, m.tk, m.nb⟩ hn hk HC.out.2.2.1 HC.out.2.2.2 HC.out.1 HC.out.2.1 hp HS).mono ?_; rintro e w9 ⟨rfl, HA, HB⟩; replace HA : Hid _ := HA; replace HB : Hid _ := HB)
      go_end0
      exact ⟨rfl, HA.out, grown_trans (wgrown_set (wgrown_set (grown_refl _ _) _) _) HB.out⟩
    · have z3 : 0 < sr - 1 := by omega
      have z4 : u < m.val := by omega
      go_enter Tryz.func127, Tryz.ntmps127
      go_wp2_with (go_at_call 129; refine (rdwiden _ lo hi b n p ⟨sr, sr - 1, m.tk, m.nb⟩ hn hk HC.out.2.2.1 HC.out.2.2.2 HC.out.1 HC.out.2.1 hp HS).mono ?_; rintro e w9 ⟨rfl, HA, HB⟩; replace HA : Hid _ := HA; replace HB : Hid _ := HB)
      go_end0
      exact ⟨rfl, HA.out, grown_trans (wgrown_set (wgrown_set (grown_refl _ _) _) _) HB.out⟩
    · have z3 : u < m.val := by omega
      go_enter Tryz.func127, Tryz.ntmps127
      go_wp2_with (go_at_call 129; refine (rdwiden _ lo hi b n p ⟨sr, m.val - u, m.tk, m.nb⟩ hn hk HC.out.2.2.1 HC.out.2.2.2 HC.out.1 HC.out.2.1 hp HS).mono ?_; rintro e w9 ⟨rfl, HA, HB⟩; replace HA : Hid _ := HA; replace HB : Hid _ := HB)
      go_end0
      exact ⟨rfl, HA.out, grown_trans (wgrown_set (wgrown_set (grown_refl _ _) _) _) HB.out⟩

/-- .. whatever is handed in. -/
theorem rdtakeU (w : World) (lo hi b n : Nat) (p : Nat → Int) (m : Re) (x y t : Int) (hn : n ≤ 100000) (hk : m.tk ≤ 800000) (hp : Hid (Bx n p)) (hg : Hid m.Good) (h : Hid (RdAt w lo hi b n p m)) :
    Calls Tryz.prog 127 #[.pointer (some ⟨b, 0, none⟩), .int .i64 x, .int .i64 y, .int .i64 t] w fun e w' => e = .returned (.tuple #[]) ∧ RdAt w' lo hi b n p (m.takeU p x y t) ∧ w.grownBy w' (some b) := by
  unfold Re.takeU
  by_cases hm : 0 ≤ x ∧ x < y ∧ y ≤ t ∧ t ≤ 4096
  · rw [if_pos hm]; exact rdtake w lo hi b n p m x y t hn hk hp hg hm h
  · rw [if_neg hm]
    refine (rdtake_bad w b x y t hm).mono ?_
    rintro e w' ⟨rfl, rfl⟩
    exact ⟨rfl, h.out, grown_refl _ _⟩

end Go.Proofs.YtfgpmdikkncckaaGreatDoor
namespace Go.Proofs.YtfgpmdikkncckaaGreatDoor
set_option linter.unusedVariables false
open Go.ChangeShapes Go.WideShapes Go.ChangeAt Go.RowKit

theorem and_one_u8 {x : Int} (h0 : 0 ≤ x) (h1 : x ≤ 255) : bits BinOp.and IntKind.u8 x 1 = x % 2 := by
  have e1 : (BitVec.ofInt 8 1).toNat = 2 ^ 1 - 1 := by decide
  have key : (BitVec.ofInt 8 x &&& BitVec.ofInt 8 1).toNat = (x % ((2 ^ 8 : Nat) : Int)).toNat % 2 ^ 1 := by
    rw [BitVec.toNat_and, BitVec.toNat_ofInt, e1, Nat.and_two_pow_sub_one_eq_mod]
  show IntKind.u8.wrap ((BitVec.ofInt 8 x &&& BitVec.ofInt 8 1).toNat : Nat) = x % 2
  rw [key, wrap_u8 (by omega) (by omega)]
  omega
theorem or_comm_u32 (x y : Int) : bits BinOp.or IntKind.u32 x y = bits BinOp.or IntKind.u32 y x := by
  show IntKind.u32.wrap ((BitVec.ofInt 32 x ||| BitVec.ofInt 32 y).toNat : Nat) = IntKind.u32.wrap ((BitVec.ofInt 32 y ||| BitVec.ofInt 32 x).toNat : Nat)
  rw [BitVec.or_comm]

set_option maxRecDepth 20000 in
theorem rdbit (w : World) (lo hi b n : Nat) (p : Nat → Int) (m : Re) (hn : n ≤ 100000) (hl : m.nb ≤ 800000) (hp : Hid (Bx n p)) (h : Hid (RdAt w lo hi b n p m)) :
    Calls Tryz.prog 128 #[.pointer (some ⟨b, 0, none⟩)] w fun e w' => e = .returned (.int .u8 (rbit n p m.nb)) ∧ RdAt w' lo hi b n p (m.raw 1) ∧ w.grownBy w' (some b) := by
  obtain ⟨v, h⟩ := h
  have h0 := h.c0
  have h4 := h.c4
  have fz := h.fz
  have ni : (n : Int) ≤ 100000 := by omega
  have li : (m.nb : Int) ≤ 800000 := by omega
  obtain ⟨j, hj⟩ : ∃ j : Nat, (m.nb : Int).tdiv 8 = j := ⟨m.nb / 8, by rw [Int.tdiv_eq_ediv_of_nonneg (by omega)]; omega⟩
  obtain ⟨s, hs⟩ : ∃ s : Nat, (m.nb : Int).tmod 8 = s := ⟨m.nb % 8, by rw [Int.tmod_eq_emod_of_nonneg (by omega)]; omega⟩
  have ej : m.nb / 8 = j := by rw [Int.tdiv_eq_ediv_of_nonneg (by omega)] at hj; omega
  have es : m.nb % 8 = s := by rw [Int.tmod_eq_emod_of_nonneg (by omega)] at hs; omega
  have HS : Hid (RCells (w.setCell ⟨b, 4, none⟩ (.int .i64 ((m.nb : Int) + 1))) lo hi b v n p m.rng m.val m.tk (m.nb + 1)) := h.set4 (m.nb + 1)
  have s8 : (s : Int) < 8 := by omega
  have jb : (j : Int) ≤ 100000 := by omega
  have d0 := cell_off (v := .int .i64 ((m.nb : Int) + 1)) (o := 4) h0 (by decide)
  unfold rbit
  rw [ej, es]
  by_cases hlt : j < n
  · rw [if_pos hlt]
    obtain ⟨g, cap, rfl, g0, g1, gc, gm⟩ := h.d.form (by omega)
    obtain ⟨q, hq⟩ : ∃ q : Nat, (n : Int) - 1 - j = q := ⟨n - 1 - j, by omega⟩
    have hq2 : n - 1 - j = q := by omega
    rw [hq2]
    have hb := hp.out.b q
    have cc := HS.out.d.cell (j := q) (by omega)
    have qn : (q : Int) < n := by omega
    have q0 : ¬ ((q : Int) < 0) := by omega
    have hpos : (0 : Int) < 2 ^ s := Int.pow_pos (by decide)
    have y0 : 0 ≤ p q / 2 ^ s := Int.ediv_nonneg hb.1 (by omega)
    have y1 : p q / 2 ^ s ≤ p q := Int.ediv_le_self _ hb.1
    have e1 := and_one_u8 (x := p q / 2 ^ s) y0 (by omega)
    clear h hq2 ej es hlt hpos
    go_enter Tryz.func128, Tryz.ntmps128
    go_wp2
    go_region
    go_wp2
    go_ret
    exact ⟨rfl, ⟨_, HS.out.drew⟩, grown_drew (wgrown_set (grown_refl _ _) _)⟩
  · rw [if_neg hlt]
    obtain ⟨ao, cap, rfl, hc1, hc2, _⟩ := h.d.slice
    have q0 : (n : Int) - 1 - j < 0 := by omega
    clear h ej es
    go_enter Tryz.func128, Tryz.ntmps128
    go_wp2
    go_region
    go_wp2
    go_ret
    exact ⟨rfl, ⟨_, HS.out.drew⟩, grown_drew (wgrown_set (grown_refl _ _) _)⟩

theorem pow16 {j : Nat} (h : j ≤ 16) : (2 : Int) ^ j ≤ 65536 := by
  match j, h with
  | 0, _ | 1, _ | 2, _ | 3, _ | 4, _ | 5, _ | 6, _ | 7, _ | 8, _ | 9, _ | 10, _ | 11, _ | 12, _ | 13, _ | 14, _ | 15, _ | 16, _ => decide
  | j + 17, h => omega

set_option maxHeartbeats 1000000 in
set_option maxRecDepth 20000 in
theorem rdraw (w : World) (lo hi b n : Nat) (p : Nat → Int) (m : Re) (c : Int) (hn : n ≤ 100000) (hl : m.nb ≤ 700000) (hp : Hid (Bx n p)) (h : Hid (RdAt w lo hi b n p m)) :
    Calls Tryz.prog 125 #[.pointer (some ⟨b, 0, none⟩), .int .i64 c] w fun e w' => e = .returned (.int .u32 (rsum n p m.nb (rawK c))) ∧ RdAt w' lo hi b n p (m.raw (rawK c)) ∧ w.grownBy w' (some b) := by
  have hk := rawK_le c
  have hcase : (c ≤ 0 ∧ rawK c = 0) ∨ (0 < c ∧ 16 < c ∧ rawK c = 16) ∨ (0 < c ∧ c ≤ 16 ∧ c = (rawK c : Int)) := by
    unfold rawK
    by_cases z1 : c < 0
    · rw [if_pos z1]; omega
    · rw [if_neg z1]
      by_cases z2 : 16 < c
      · rw [if_pos z2]; omega
      · rw [if_neg z2]; omega
  generalize rawK c = k at *
  go_enter Tryz.func125, Tryz.ntmps125
  rcases hcase with ⟨c1, rfl⟩ | ⟨c1, c2, ck⟩ | ⟨c1, c2, rfl⟩
  · have c3 : c ≤ 16 := by omega
    go_wp2
    refine wp_loop_rounds 1 ?_
    rw [rounds_succ]
    go_wp2
    go_ret
    exact ⟨rfl, h.out, grown_refl _ _⟩
  · have ck' : (k : Int) = 16 := by omega
    go_wp2
    go_loopw [5, 6, 10] (fun x _ i wr => ∃ j : Nat, j ≤ k ∧ i = .int .i64 j ∧ x = .int .u32 (rsum n p m.nb j) ∧ Hid (RdAt wr lo hi b n p (m.raw j)) ∧ Hid (w.grownBy wr (some b))) (fun _ _ i _ => k - (intOf i).toNat)
    case atStart => exact ⟨0, by omega, rfl, rfl, h, grown_refl _ _⟩
    case round =>
      obtain ⟨j, hj, rfl, rfl, HW, HB⟩ := hrel
      by_cases hlt : j < k
      · have hlt' : (j : Int) < 16 := by omega
        have hpos : (0 : Int) < 2 ^ j := Int.pow_pos (by decide)
        have hp16 : (2 : Int) ^ j ≤ 65536 := pow16 (by omega)
        have hb := rbit_bd n p (m.nb + j)
        have hs := rsum_bd n p m.nb j
        have HR : Hid (rsum n p m.nb (j + 1) = rsum n p m.nb j + rbit n p (m.nb + j) * 2 ^ j) := rfl
        have HN : Hid ((m.raw j).raw 1 = m.raw (j + 1)) := rfl
        have n1 : (m.raw j).nb ≤ 800000 := by show m.nb + j ≤ _; omega
        have HE : Hid (rbit n p (m.raw j).nb = rbit n p (m.nb + j)) := rfl
        generalize rbit n p (m.nb + j) = y at *
        generalize rsum n p m.nb j = x at *
        have hy : y * 2 ^ j ≤ 65536 := by
          obtain e | e : y = 0 ∨ y = 1 := by omega
          · rw [e]; omega
          · rw [e]; omega
        have hy0 : 0 ≤ y * 2 ^ j := Int.mul_nonneg hb.1 (by omega)
        have e1 : bits BinOp.or IntKind.u32 x (y * 2 ^ j) = x + y * 2 ^ j := by rw [or_comm_u32, or_u32 hs.1 hs.2 hb.1 (by omega) (by omega), Int.add_comm]
        have e2 := wrap_u32 (x := y) (by omega) (by omega)
        have e3 := wrap_u32 (x := y * 2 ^ j) hy0 (by omega)
        have e4 : y * 2 ^ j % 4294967296 = y * 2 ^ j := Int.emod_eq_of_lt hy0 (by omega)
        have j0 : ¬ ((j : Int) < 0) := by omega
        clear hpos hp16 hs
        go_wp2_with (go_at_call 128; refine (rdbit _ lo hi b n p (m.raw j) hn n1 hp HW).mono ?_; rw [HE.out]; rintro e w1 ⟨rfl, HA, HB1⟩; replace HA : Hid (RdAt w1 lo hi b n p ((m.raw j).raw 1)) := HA; replace HB1 : Hid _ := HB1)
        go_roundw
        case rel => exact ⟨j + 1, by omega, by go_num, by rw [HR.out], HA, grown_trans HB.out HB1.out⟩
        case measure => simp [intOf]; omega
      · have e : j = k := by omega
        subst e
        clear hlt
        go_wp2
        go_ret
        exact ⟨rfl, HW.out, HB.out⟩
  · have ck' : (k : Int) ≤ 16 := by omega
    go_wp2
    go_loopw [5, 6, 10] (fun x _ i wr => ∃ j : Nat, j ≤ k ∧ i = .int .i64 j ∧ x = .int .u32 (rsum n p m.nb j) ∧ Hid (RdAt wr lo hi b n p (m.raw j)) ∧ Hid (w.grownBy wr (some b))) (fun _ _ i _ => k - (intOf i).toNat)
    case atStart => exact ⟨0, by omega, rfl, rfl, h, grown_refl _ _⟩
    case round =>
      obtain ⟨j, hj, rfl, rfl, HW, HB⟩ := hrel
      by_cases hlt : j < k
      · have hlt' : (j : Int) < k := by omega
        have hpos : (0 : Int) < 2 ^ j := Int.pow_pos (by decide)
        have hp16 : (2 : Int) ^ j ≤ 65536 := pow16 (by omega)
        have hb := rbit_bd n p (m.nb + j)
        have hs := rsum_bd n p m.nb j
        have HR : Hid (rsum n p m.nb (j + 1) = rsum n p m.nb j + rbit n p (m.nb + j) * 2 ^ j) := rfl
        have HN : Hid ((m.raw j).raw 1 = m.raw (j + 1)) := rfl
        have n1 : (m.raw j).nb ≤ 800000 := by show m.nb + j ≤ _; omega
        have HE : Hid (rbit n p (m.raw j).nb = rbit n p (m.nb + j)) := rfl
        generalize rbit n p (m.nb + j) = y at *
        generalize rsum n p m.nb j = x at *
        have hy : y * 2 ^ j ≤ 65536 := by
          obtain e | e : y = 0 ∨ y = 1 := by omega
          · rw [e]; omega
          · rw [e]; omega
        have hy0 : 0 ≤ y * 2 ^ j := Int.mul_nonneg hb.1 (by omega)
        have e1 : bits BinOp.or IntKind.u32 x (y * 2 ^ j) = x + y * 2 ^ j := by rw [or_comm_u32, or_u32 hs.1 hs.2 hb.1 (by omega) (by omega), Int.add_comm]
        have e2 := wrap_u32 (x := y) (by omega) (by omega)
        have e3 := wrap_u32 (x := y * 2 ^ j) hy0 (by omega)
        have e4 : y * 2 ^ j % 4294967296 = y * 2 ^ j := Int.emod_eq_of_lt hy0 (by omega)
        have j0 : ¬ ((j : Int) < 0) := by omega
        clear hpos hp16 hs
        go_wp2_with (go_at_call 128; refine (rdbit _ lo hi b n p (m.raw j) hn n1 hp HW).mono ?_; rw [HE.out]; rintro e w1 ⟨rfl, HA, HB1⟩; replace HA : Hid (RdAt w1 lo hi b n p ((m.raw j).raw 1)) := HA; replace HB1 : Hid _ := HB1)
        go_roundw
        case rel => exact ⟨j + 1, by omega, by go_num, by rw [HR.out], HA, grown_trans HB.out HB1.out⟩
        case measure => simp [intOf]; omega
      · have e : j = k := by omega
        subst e
        clear hlt
        go_wp2
        go_ret
        exact ⟨rfl, HW.out, HB.out⟩

end Go.Proofs.YtfgpmdikkncckaaGreatDoor
namespace Go.Proofs.YtfgpmdikkncckaaGreatDoor
set_option linter.unusedVariables false
open Go.ChangeShapes Go.WideShapes Go.ChangeAt Go.RowKit

def catF (n : Nat) (f g : Nat → Int) : Nat → Int := fun i => if i < n then f i else g (i - n)
theorem catF_lt {n i : Nat} (f g : Nat → Int) (h : i < n) : catF n f g i = f i := if_pos h
theorem catF_ge {n i : Nat} (f g : Nat → Int) (h : n ≤ i) : catF n f g i = g (i - n) := if_neg (by omega)
theorem numL_cat (k : IntKind) (f g : Nat → Int) (n m : Nat) : numL k f n ++ numL k g m = numL k (catF n f g) (n + m) := by
  apply List.ext_getElem?
  intro i
  by_cases h1 : i < n
  · rw [List.getElem?_append_left (by rw [numL_len]; exact h1), numL_at k f h1, numL_at k _ (by omega), catF_lt f g h1]
  · by_cases h2 : i < n + m
    · rw [List.getElem?_append_right (by rw [numL_len]; omega), numL_len, numL_at k g (by omega), numL_at k _ h2, catF_ge f g (by omega)]
    · rw [List.getElem?_eq_none (by rw [List.length_append, numL_len, numL_len]; omega), List.getElem?_eq_none (by rw [numL_len]; omega)]
theorem numL_ones (k : IntKind) (f : Nat → Int) (n : Nat) : ∀ u ∈ numL k f n, u.oneCell' = true := by
  intro u hu
  obtain ⟨i, _, rfl⟩ := List.mem_map.1 hu
  rfl
theorem IntsAt.news {w : World} {ad : Addr} {m : Nat} {k : IntKind} {g : Nat → Int} (h : IntsAt w (some ad) m k g) : ∀ j u, (numL k g m)[j]? = some u → w.cell? (ad.add j) = some u := by
  intro j u hu
  have hj : j < m := by have := (List.getElem?_eq_some_iff.1 hu).1; rw [numL_len] at this; exact this
  rw [numL_at k g hj] at hu
  cases hu
  obtain ⟨b, off, e, hc⟩ := h j hj
  cases e
  rw [add_plain]; exact hc

theorem run_cat (w : World) (ty : TypeId) (B : Nat) (v : Value) (n : Nat) (f : Nat → Int) (hown : OwnN w B 5 .u8 v n f) (ao : Option Addr) (m c : Nat) (g : Nat → Int) (hg : IntsAt w ao m .u8 g) (hn : n ≤ 1000000) (hm : m ≤ 1000000) (hB : B ≤ w.heap.size) :
    ∃ v' w', (Builtin.append_ #[22, 22] ty #[v, .slice ao m c]).run Tryz.prog w = .ok v' w' ∧ OwnN w' B 5 .u8 v' (n + m) (catF n f g) ∧ w.grownBy w' v.ownBlock ∧ (v'.ownBlock = v.ownBlock ∨ v'.ownBlock = some w.heap.size) := by
  obtain ⟨i0, hi, hz0, hz1, hz2⟩ := info_parts u8_info
  cases ao with
  | none =>
    obtain rfl : m = 0 := by
      cases m with
      | zero => rfl
      | succ m => obtain ⟨b, off, e, _⟩ := hg 0 (by omega); cases e
    refine ⟨v, w, ?_, hown.congr (fun i hi => (catF_lt f g hi).symm), grown_refl _ _, .inl rfl⟩
    obtain ⟨ao, cap, rfl, h1, h2, _⟩ := hown.slice
    cases ao with
    | none => simp [Builtin.append_, run_underlying Tryz.underlying22, sizeOf, typeInfo, hi, Builtin.lenOf, Builtin.firstCells, h1]
    | some a => simp [Builtin.append_, run_underlying Tryz.underlying22, sizeOf, typeInfo, hi, Builtin.lenOf, Builtin.firstCells, h1, storeCells]
  | some ad =>
    obtain ⟨v', w', hr, h2, h3, _, h5⟩ := run_append_own_at (P := Tryz.prog) w B 22 ty 5 i0 (.int .u8 0) 1 1 Tryz.underlying22 hi hz0 hz1 hz2 rfl (by decide) v n (numL .u8 f n) hown ad m c (numL .u8 g m) (by rw [numL_len, Nat.mul_one]) hg.news (numL_ones _ _ _) (by unfold maxLen; omega) (by omega) hB
    rw [numL_cat] at h2
    exact ⟨v', w', hr, h2, h3, h5⟩

theorem zeroCells_u8 (m : Nat) : (Builtin.zeroCells (Value.int .u8 0).cells m) = (numL .u8 (fun _ => 0) m).toArray := by
  apply Array.ext'
  unfold Builtin.zeroCells numL
  simp [Value.cells]
  intro a _
  rw [Nat.mod_one]
  rfl

theorem run_zeros (w : World) (ty : TypeId) (B : Nat) (v : Value) (n : Nat) (f : Nat → Int) (hown : OwnN w B 5 .u8 v n f) (m : Nat) (hn : n ≤ 1000000) (hm : m ≤ 1000000) (hB : B ≤ w.heap.size) :
    ∃ v' w', (Builtin.append_ #[22, 3] ty #[v, .int .i64 m]).run Tryz.prog w = .ok v' w' ∧ OwnN w' B 5 .u8 v' (n + m) (catF n f fun _ => 0) ∧ w.grownBy w' v.ownBlock ∧ (v'.ownBlock = v.ownBlock ∨ v'.ownBlock = some w.heap.size) := by
  obtain ⟨i0, hi, hz0, hz1, hz2⟩ := info_parts u8_info
  have hw : IntKind.i64.wrap (m : Int) = m := by simp [IntKind.wrap, IntKind.bits, IntKind.signed]; omega
  have hneg : ¬ ((m : Int) < 0) := by omega
  have h48i : ¬ (281474976710656 < (m : Int) * (i0.bytes : Int)) := by rw [hz2]; omega
  by_cases hm0 : m = 0
  · subst hm0
    refine ⟨v, w, ?_, hown.congr (fun i hi => (catF_lt f _ hi).symm), grown_refl _ _, .inl rfl⟩
    obtain ⟨ao, cap, rfl, h1, h2, _⟩ := hown.slice
    have hw0 : IntKind.i64.wrap 0 = 0 := rfl
    cases ao with
    | none => simp [Builtin.append_, run_underlying Tryz.underlying22, run_underlying Tryz.underlying3, sizeOf, typeInfo, zeroValue, hi, hz0, asInt, asIntOf, h1, hw0]
    | some a => simp [Builtin.append_, run_underlying Tryz.underlying22, run_underlying Tryz.underlying3, sizeOf, typeInfo, zeroValue, hi, hz0, asInt, asIntOf, h1, hw0, storeCells]
  · have hns : ¬ (m * i0.size = 0) := by rw [hz1]; omega
    rcases hown.2 with ⟨rfl, h0⟩ | ⟨g, cap, cur, rfl, hb, hg, hnc, hcm, hcs, htake⟩
    · have hr := Lib.run_append_nil_zeros (P := Tryz.prog) w 22 3 ty 5 i0 (.int .u8 0) .i64 .i64 Tryz.underlying22 Tryz.underlying3 hi hz0 m (by omega) (by rw [hz1]; decide) (by omega) (by rw [hz2]; omega)
      have hge := grownCap_ge w m 0 5
      subst h0
      refine ⟨_, _, hr, ?_, ⟨rfl, rfl, rfl, by simp, fun k hk _ => heap_alloc_old w.drew _ hk⟩, .inr rfl⟩
      rw [Nat.zero_add]
      refine ⟨by rw [numL_len, Nat.mul_one], .inr ⟨w.heap.size, _, _, rfl, hB, heap_alloc_new w.drew _, hge, grownCap_le_maxLen w m 0 _ (by unfold maxLen; omega), ?_, ?_⟩⟩
      · rw [Array.size_append, size_zeroCells, size_zeroCells]
        show m * 1 + _ * 1 = _
        omega
      · rw [zeroCells_u8, zeroCells_u8, Array.toList_append, Nat.mul_one]
        show (numL .u8 (fun _ => 0) m ++ _).take m = _
        rw [List.take_append_of_le_length (by rw [numL_len]; exact Nat.le_refl _), List.take_of_length_le (by rw [numL_len]; exact Nat.le_refl _)]
        exact numL_congr fun i hi => by rw [catF_ge _ _ (Nat.zero_le _)]
    · rw [Nat.mul_one] at hcs htake
      by_cases hroom : n + m ≤ cap
      · have hst := run_storeCells_at (P := Tryz.prog) g n 5 (numL .u8 (fun _ => 0) m) 0 cur w hg (by rw [numL_len]; omega) (numL_ones _ _ _)
        simp only [Nat.add_zero] at hst
        have hr : (Builtin.append_ #[22, 3] ty #[.slice (some ⟨g, 0, none⟩) n cap, .int .i64 m]).run Tryz.prog w = .ok (.slice (some ⟨g, 0, none⟩) (n + m) cap) (w.setRow g (cur.toList.take n ++ numL .u8 (fun _ => 0) m ++ cur.toList.drop (n + (numL .u8 (fun _ => 0) m).length)).toArray) := by
          simp [Builtin.append_, run_underlying Tryz.underlying22, run_underlying Tryz.underlying3, sizeOf, typeInfo, zeroValue, hi, hz0, hz1, asInt, asIntOf, hw, hneg, h48i, hm0, hroom, zeroCells_u8, Addr.add_lit, hst]
        refine ⟨_, _, hr, ⟨by rw [numL_len, Nat.mul_one], .inr ⟨g, cap, _, rfl, hb, setRow_heap w g cur _ _ _ hg, hroom, hcm, ?_, ?_⟩⟩, ⟨rfl, rfl, rfl, by simp, fun k _ hk => setRow_other w g k _ (fun e => hk (by simp [Value.ownBlock, e]))⟩, .inl rfl⟩
        · simp only [List.size_toArray, List.length_append, List.length_take, List.length_drop, Array.length_toList, numL_len]
          omega
        · rw [htake, ← numL_cat, Nat.mul_one]
          exact List.take_left' (by rw [List.length_append, numL_len, numL_len])
      · have hold : (Builtin.firstCells i0.size n (.slice (some ⟨g, 0, none⟩) n cap)).run Tryz.prog w.drew = .ok (numL .u8 f n).toArray w.drew :=
          run_firstCells_some (P := Tryz.prog) w.drew i0.size n ⟨g, 0, none⟩ n cap (numL .u8 f n) (by rw [numL_len, hz1, Nat.mul_one]) (hown.cells (g := g) rfl)
        have hr := Lib.run_append_grow_zeros (P := Tryz.prog) w 22 3 ty 5 i0 (.int .u8 0) .i64 .i64 Tryz.underlying22 Tryz.underlying3 hi hz0 (some ⟨g, 0, none⟩) n cap (numL .u8 f n) hold m (by omega) (by rw [hz1]; decide) (by omega) (by omega) (by rw [hz2]; omega) (growslice_fits (by omega) (by rw [hz2]; omega))
        have hge := grownCap_ge w (n + m) cap 5
        refine ⟨_, _, hr, ?_, ⟨rfl, rfl, rfl, by simp, fun k hk _ => heap_alloc_old w.drew _ hk⟩, .inr rfl⟩
        refine ⟨by rw [numL_len, Nat.mul_one], .inr ⟨w.heap.size, _, _, rfl, hB, heap_alloc_new w.drew _, hge, grownCap_le_maxLen w (n + m) cap _ (by unfold maxLen; omega), ?_, ?_⟩⟩
        · rw [Array.size_append, Array.size_append, size_zeroCells, size_zeroCells, List.size_toArray, numL_len]
          show n + m * 1 + _ * 1 = _
          omega
        · rw [zeroCells_u8, zeroCells_u8, Array.toList_append, Array.toList_append, Nat.mul_one]
          show (numL .u8 f n ++ numL .u8 (fun _ => 0) m ++ _).take (n + m) = _
          rw [numL_cat, List.take_append_of_le_length (by rw [numL_len]; exact Nat.le_refl _), List.take_of_length_le (by rw [numL_len]; exact Nat.le_refl _)]

/-- A list of the call's own, as a list somewhere. -/
theorem OwnN.ints {w : World} {B : Nat} {e : TypeId} {k : IntKind} {ao : Option Addr} {n cap : Nat} {f : Nat → Int} (h : OwnN w B e k (.slice ao n cap) n f) : IntsAt w ao n k f := by
  intro i hi
  obtain ⟨g, cap', e1, _, _, _, _⟩ := h.form (by omega)
  cases e1
  exact ⟨g, 0, rfl, by rw [Nat.zero_add]; exact h.cell hi⟩

theorem wpList_cat {w : World} {ops : Array Oper} {rest : List Oper} {o : Oper} {a : Act} {Q : Exit → Act → World → Prop} (hgd : o.guard = none) (s x : Operand)
    (ho : o.op = .call { callee := .builtin .append, args := #[s, x], argTypes := #[22, 22] }) (B : Nat) (v : Value) (n : Nat) (f : Nat → Int) (hs : a.eval s = v) (hown : OwnN w B 5 .u8 v n f) (ao : Option Addr) (m c : Nat) (g : Nat → Int) (hx : a.eval x = .slice ao m c)
    (hg : IntsAt w ao m .u8 g) (hn : n ≤ 1000000) (hm : m ≤ 1000000) (hB : B ≤ w.heap.size)
    (h : ∀ ao' cap' w', OwnN w' B 5 .u8 (.slice ao' (n + m) cap') (n + m) (catF n f g) → w.grownBy w' v.ownBlock → wpList Tryz.prog ops Q rest (a.put o.dst (.slice ao' (n + m) cap')) w') : wpList Tryz.prog ops Q (o :: rest) a w := by
  obtain ⟨v', w', hr, h2, h3, h4⟩ := run_cat w o.type B v n f hown ao m c g hg hn hm hB
  obtain ⟨ao', cap', rfl, _, _, _⟩ := h2.slice
  exact Lib.wpList_append_run w hgd s x 22 22 ho _ _ hs hx _ w' hr (h ao' cap' w' h2 h3)
theorem wpList_zeros {w : World} {ops : Array Oper} {rest : List Oper} {o : Oper} {a : Act} {Q : Exit → Act → World → Prop} (hgd : o.guard = none) (s x : Operand)
    (ho : o.op = .call { callee := .builtin .append, args := #[s, x], argTypes := #[22, 3] }) (B : Nat) (v : Value) (n : Nat) (f : Nat → Int) (hs : a.eval s = v) (hown : OwnN w B 5 .u8 v n f) (m : Nat) (hx : a.eval x = .int .i64 m)
    (hn : n ≤ 1000000) (hm : m ≤ 1000000) (hB : B ≤ w.heap.size)
    (h : ∀ ao' cap' w', OwnN w' B 5 .u8 (.slice ao' (n + m) cap') (n + m) (catF n f fun _ => 0) → w.grownBy w' v.ownBlock → wpList Tryz.prog ops Q rest (a.put o.dst (.slice ao' (n + m) cap')) w') : wpList Tryz.prog ops Q (o :: rest) a w := by
  obtain ⟨v', w', hr, h2, h3, h4⟩ := run_zeros w o.type B v n f hown m hn hm hB
  obtain ⟨ao', cap', rfl, _, _, _⟩ := h2.slice
  exact Lib.wpList_append_run w hgd s x 22 3 ho _ _ hs hx _ w' hr (h ao' cap' w' h2 h3)
end Go.Proofs.YtfgpmdikkncckaaGreatDoor
namespace Go.Proofs.YtfgpmdikkncckaaGreatDoor
set_option linter.unusedVariables false
open Go.ChangeShapes Go.WideShapes Go.ChangeAt Go.RowKit

theorem IntsAt.alloc {w : World} {ao : Option Addr} {n : Nat} {k : IntKind} {f : Nat → Int} (h : IntsAt w ao n k f) (o : Obj) : IntsAt (w.alloc o) ao n k f := h.below ((Below.refl _ _).alloc (Nat.le_refl _) _)

set_option maxRecDepth 20000 in
theorem clone_any (w : World) (ao : Option Addr) (n cap : Nat) (p : Nat → Int) (hn : n ≤ 100000) (h : Hid (IntsAt w ao n .u8 p)) :
    Calls Tryz.prog 32 #[.slice ao n cap] w fun e w' => ∃ ao' cap', e = .returned (.slice ao' n cap') ∧ OwnN w' w.heap.size 5 .u8 (.slice ao' n cap') n p ∧ Below w.heap.size w w' := by
  have qT : ∀ (w : World) (a : Option Addr) (n c n' c' : Nat), (binOp .eql 22 (.slice a n c) (.slice none n' c')).run Tryz.prog w = .ok (.bool a.isNone) w := fun w a n c n' c' => Lib.run_eql_slice_nil w _ _ a n c n' c' Tryz.underlying22
  cases ao with
  | none =>
    obtain rfl : n = 0 := by
      cases n with
      | zero => rfl
      | succ m => obtain ⟨b, off, e, _⟩ := h.out 0 (by omega); cases e
    go_enter Tryz.func32, Tryz.ntmps32
    go_wp2
    go_ret
    exact ⟨none, 0, rfl, own_nil _ _ _ _ _, Below.refl _ _⟩
  | some ad =>
    obtain ⟨v', w', hr, h2, h3, h4⟩ := run_cat (w.alloc (.cells #[] 5)) 22 w.heap.size (.slice (some ⟨w.heap.size, 0, none⟩) 0 0) 0 (fun _ => 0) (World.ownsRow_made w #[] 0 (Nat.le_refl _) (by decide) rfl) (some ad) n cap p (h.out.alloc _) (by omega) (by omega) (by simp)
    rw [Nat.zero_add] at h2
    have HO : Hid (OwnN w' w.heap.size 5 .u8 v' n p) := h2.congr (fun i hi => by rw [catF_ge _ _ (Nat.zero_le _)]; rfl)
    have HB : Hid (Below w.heap.size w w') := below_grown (b := w.heap.size) ((Below.refl _ _).alloc (Nat.le_refl _) _) h3 (Nat.le_refl _) (by simp)
    clear h2 h3 h4
    obtain ⟨ao', cap', rfl, _, _, _⟩ := HO.out.slice
    go_enter Tryz.func32, Tryz.ntmps32
    go_wp2_with (at_builtin; refine Lib.wpList_append_run _ rfl _ _ 22 22 rfl _ _ rfl rfl _ w' hr ?_)
    go_ret
    exact ⟨_, _, rfl, HO.out, HB.out⟩

set_option maxRecDepth 20000 in
theorem rdnew (w : World) (ao : Option Addr) (n cap : Nat) (p : Nat → Int) (hn : n ≤ 100000) (hp : Hid (Bx n p)) (h : Hid (IntsAt w ao n .u8 p)) :
    Calls Tryz.prog 11 #[.slice ao n cap] w fun e w' => ∃ b, e = .returned (.pointer (some ⟨b, 0, none⟩)) ∧ RdAt w' w.heap.size w'.heap.size b n p (Re.new p) ∧ Below w.heap.size w w' := by
  have p0 := hp.out.b 0
  have p1 := hp.out.b 1
  go_enter Tryz.func11, Tryz.ntmps11
  go_wp2_with (go_at_call 32; refine (clone_any _ ao n cap p hn h).mono ?_; rintro e w1 ⟨ao', cap', rfl, HO, HB⟩; replace HO : Hid (OwnN w1 w.heap.size 5 .u8 (.slice ao' n cap') n p) := HO; replace HB : Hid (Below w.heap.size w w1) := HB)
  have HC : Hid (RCells (w1.alloc (.cells #[.slice ao' n cap', .int .u32 16777216, .int .u32 0, .int .i64 0, .int .i64 0] 78)) w.heap.size (w1.heap.size + 1) w1.heap.size (.slice ao' n cap') n p 16777216 0 0 0) :=
    ⟨heap_alloc_new w1 _, HO.out.kept (World.grownBy_alloc w1 _ none) (by cases hv : Value.ownBlock (.slice ao' n cap') <;> simp), HB.out.size, Nat.lt_succ_self _, fun g hg => ⟨Nat.lt_succ_of_lt (HO.out.lt hg).2, Nat.ne_of_lt (HO.out.lt hg).2⟩⟩
  refine wp_loop_rounds 4 ?_
  rw [rounds_succ]
  go_wp2_with (go_at_call 33; refine (shift_any _ w.heap.size (w1.heap.size + 1) w1.heap.size (.slice ao' n cap') n p 16777216 0 0 0 hn (by decide) (by decide) (by decide) hp HC).mono ?_; rintro e w2 ⟨rfl, HC2, HB2⟩; rw [show (0 : Int) * 256 + p 0 = p 0 by omega] at HC2; replace HC2 : Hid (RCells w2 w.heap.size (w1.heap.size + 1) w1.heap.size (.slice ao' n cap') n p 16777216 (p 0) 1 0) := HC2; replace HB2 : Hid _ := HB2)
  rw [rounds_succ]
  go_wp2_with (go_at_call 33; refine (shift_any _ w.heap.size (w1.heap.size + 1) w1.heap.size (.slice ao' n cap') n p 16777216 (p 0) 1 0 hn (by decide) (by omega) (by omega) hp HC2).mono ?_; rintro e w3 ⟨rfl, HC3, HB3⟩; replace HC3 : Hid (RCells w3 w.heap.size (w1.heap.size + 1) w1.heap.size (.slice ao' n cap') n p 16777216 (p 0 * 256 + p 1) 2 0) := HC3; replace HB3 : Hid _ := HB3)
  rw [rounds_succ]
  go_wp2_with (go_at_call 33; refine (shift_any _ w.heap.size (w1.heap.size + 1) w1.heap.size (.slice ao' n cap') n p 16777216 (p 0 * 256 + p 1) 2 0 hn (by decide) (by omega) (by omega) hp HC3).mono ?_; rintro e w4 ⟨rfl, HC4, HB4⟩; replace HC4 : Hid (RCells w4 w.heap.size (w1.heap.size + 1) w1.heap.size (.slice ao' n cap') n p 16777216 ((p 0 * 256 + p 1) * 256 + p 2) 3 0) := HC4; replace HB4 : Hid _ := HB4)
  rw [rounds_succ]
  go_wp2
  go_ret
  have g2 : (w1.alloc (.cells #[.slice ao' n cap', .int .u32 16777216, .int .u32 0, .int .i64 0, .int .i64 0] 78)).grownBy w4 (some w1.heap.size) := grown_trans (grown_trans HB2.out HB3.out) HB4.out
  have hsz : w1.heap.size + 1 ≤ w4.heap.size := by have := g2.size; simpa using this
  refine ⟨_, rfl, ⟨.slice ao' n cap', ?_⟩, below_grown (HB.out.alloc HB.out.size _) g2 HB.out.size (Nat.le_trans HB.out.size (by simp))⟩
  have e : (Re.new p).val = (p 0 * 256 + p 1) * 256 + p 2 := by show p 0 * 65536 + p 1 * 256 + p 2 = _; omega
  rw [e]
  exact ⟨HC4.out.row, HC4.out.d, HC4.out.b0, Nat.lt_of_lt_of_le HC4.out.b1 hsz, fun g hg => ⟨Nat.lt_of_lt_of_le (HC4.out.vh g hg).1 hsz, (HC4.out.vh g hg).2⟩⟩
end Go.Proofs.YtfgpmdikkncckaaGreatDoor
