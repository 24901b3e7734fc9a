/-
  Plain mathematics of layer 7 (reader): what a reader is (its range, its value, how many bytes and raw bits were taken), what looking for a symbol, taking one and taking raw bits makes of it. No condition; no program.
-/
import Derived.Test.YtfgpmdikkncckaaDoorWriterMath
namespace Go.Proofs.YtfgpmdikkncckaaDoor
set_option linter.unusedVariables false
open Go.RowKit

/-- n bytes, noughts behind them. -/
structure Bx (n : Nat) (p : Nat → Int) : Prop where
  b : Byte p
  z : ∀ i, n ≤ i → p i = 0

/-- A reader: its range, its value, how many bytes were taken, how many raw bits. -/
structure Re where
  rng : Int
  val : Int
  tk : Nat
  nb : Nat

/-- .. between two symbols. -/
structure Re.Good (m : Re) : Prop where
  r1 : 65536 < m.rng
  r2 : m.rng ≤ 16777216
  v0 : 0 ≤ m.val
  v1 : m.val < m.rng

def Re.new (p : Nat → Int) : Re := ⟨16777216, p 0 * 65536 + p 1 * 256 + p 2, 3, 0⟩
def Re.get (m : Re) (t : Int) : Int := if t - 1 < m.val / (m.rng / t) then t - 1 else m.val / (m.rng / t)
/-- .. whatever is handed in. -/
def Re.getU (m : Re) (t : Int) : Int := if 1 ≤ t ∧ t ≤ 4096 then m.get t else 0
def Re.part (m : Re) (a b t : Int) : Int := if b = t then m.rng - a * (m.rng / t) else (b - a) * (m.rng / t)
def clampR (x r : Int) : Int := if x < 0 then 0 else if r - 1 < x then r - 1 else x
/-- A symbol, ahead of bytes being taken. -/
def Re.sym (m : Re) (a b t : Int) : Re := { m with rng := m.part a b t, val := clampR (m.val - a * (m.rng / t)) (m.part a b t) }
/-- A byte is taken. -/
def Re.grow (m : Re) (p : Nat → Int) : Re := { m with rng := m.rng * 256, val := m.val * 256 + p m.tk, tk := m.tk + 1 }
def Re.wide (m : Re) (p : Nat → Int) : Re := if m.rng ≤ 256 then (m.grow p).grow p else if m.rng ≤ 65536 then m.grow p else m
def Re.take (m : Re) (p : Nat → Int) (a b t : Int) : Re := (m.sym a b t).wide p
def Re.takeU (m : Re) (p : Nat → Int) (a b t : Int) : Re := if 0 ≤ a ∧ a < b ∧ b ≤ t ∧ t ≤ 4096 then m.take p a b t else m
/-- Raw bits are taken. -/
def Re.raw (m : Re) (k : Nat) : Re := { m with nb := m.nb + k }
def Re.left (m : Re) (n : Nat) : Int := 8 * (n : Int) - 8 * (m.tk : Int) - (m.nb : Int)
/-- How many raw bits are taken, whatever is asked for. -/
def rawK (n : Int) : Nat := if n < 0 then 0 else if 16 < n then 16 else n.toNat
theorem rawK_le (n : Int) : rawK n ≤ 16 := by unfold rawK; split; · omega
                                              split <;> omega

theorem rpart_bd {m : Re} {a b t : Int} (h1 : 65536 < m.rng) (h : May a b t) : 16 ≤ m.rng / t ∧ m.rng / t ≤ m.rng ∧ 0 ≤ a * (m.rng / t) ∧ a * (m.rng / t) ≤ m.rng ∧ (b - a) * (m.rng / t) ≤ m.rng ∧ 16 ≤ m.part a b t ∧ m.part a b t ≤ m.rng :=
  part_bd (m := ⟨m.rng, fun _ => 0, 3, fun _ => 0, 0⟩) h1 h
theorem clampR_bd {x r : Int} (h : 0 < r) : 0 ≤ clampR x r ∧ clampR x r < r := by
  unfold clampR; split
  · omega
  · split <;> omega
theorem new_good {n : Nat} {p : Nat → Int} (h : Bx n p) : (Re.new p).Good := by
  have h0 := h.b 0
  have h1 := h.b 1
  have h2 := h.b 2
  exact ⟨by show (65536 : Int) < 16777216; decide, Int.le_refl _, by show 0 ≤ p 0 * 65536 + p 1 * 256 + p 2; omega, by show p 0 * 65536 + p 1 * 256 + p 2 < 16777216; omega⟩
theorem take_good {n : Nat} {p : Nat → Int} {m : Re} {a b t : Int} (hp : Bx n p) (h : m.Good) (hm : May a b t) : (m.take p a b t).Good := by
  have hb := rpart_bd h.r1 hm
  have hr := h.r2
  have hc := clampR_bd (x := m.val - a * (m.rng / t)) (r := m.part a b t) (by omega)
  have k0 := hp.b m.tk
  have k1 := hp.b (m.tk + 1)
  unfold Re.take Re.wide
  show (if m.part a b t ≤ 256 then _ else _ : Re).Good
  unfold Re.grow Re.sym
  generalize m.part a b t = g at *
  generalize clampR (m.val - a * (m.rng / t)) g = c at *
  split
  · exact ⟨by show 65536 < g * 256 * 256; omega, by show g * 256 * 256 ≤ _; omega, by show 0 ≤ (c * 256 + p m.tk) * 256 + p (m.tk + 1); omega, by show (c * 256 + p m.tk) * 256 + p (m.tk + 1) < g * 256 * 256; omega⟩
  · show (if g ≤ 65536 then _ else _ : Re).Good
    split
    · exact ⟨by show 65536 < g * 256; omega, by show g * 256 ≤ _; omega, by show 0 ≤ c * 256 + p m.tk; omega, by show c * 256 + p m.tk < g * 256; omega⟩
    · exact ⟨by show 65536 < g; omega, by show g ≤ _; omega, hc.1, hc.2⟩
theorem takeU_good {n : Nat} {p : Nat → Int} {m : Re} (hp : Bx n p) (h : m.Good) (a b t : Int) : (m.takeU p a b t).Good := by
  unfold Re.takeU; split
  · rename_i hm; exact take_good hp h hm
  · exact h
theorem take_n (m : Re) (p : Nat → Int) (a b t : Int) : m.tk ≤ (m.take p a b t).tk ∧ (m.take p a b t).tk ≤ m.tk + 2 ∧ (m.take p a b t).nb = m.nb := by
  unfold Re.take Re.wide; split
  · exact ⟨Nat.le_add_right m.tk 2, Nat.le_refl _, rfl⟩
  · split
    · exact ⟨Nat.le_add_right m.tk 1, Nat.le_add_right (m.tk + 1) 1, rfl⟩
    · exact ⟨Nat.le_refl _, Nat.le_add_right m.tk 2, rfl⟩
theorem takeU_n (m : Re) (p : Nat → Int) (a b t : Int) : m.tk ≤ (m.takeU p a b t).tk ∧ (m.takeU p a b t).tk ≤ m.tk + 2 ∧ (m.takeU p a b t).nb = m.nb := by
  unfold Re.takeU; split
  · exact take_n m p a b t
  · exact ⟨Nat.le_refl _, Nat.le_add_right m.tk 2, rfl⟩
theorem rawRe_good {m : Re} (h : m.Good) (k : Nat) : (m.raw k).Good := ⟨h.r1, h.r2, h.v0, h.v1⟩
theorem get_bd {m : Re} (h : m.Good) {t : Int} (h1 : 1 ≤ t) (h2 : t ≤ 4096) : 0 ≤ m.get t ∧ m.get t < t ∧ 16 ≤ m.rng / t := by
  have hr : 16 ≤ m.rng / t := by
    have := h.r1
    rw [Int.le_ediv_iff_mul_le (by omega)]; omega
  have hq : 0 ≤ m.val / (m.rng / t) := Int.ediv_nonneg h.v0 (by omega)
  unfold Re.get
  refine ⟨?_, ?_, hr⟩ <;> split <;> omega

theorem getU_bd {m : Re} (h : m.Good) (t : Int) : 0 ≤ m.getU t ∧ m.getU t ≤ 4095 := by
  unfold Re.getU; split
  · rename_i ht
    have := get_bd h ht.1 ht.2
    omega
  · omega

/-- Raw bit i of n bytes. -/
def rbit (n : Nat) (p : Nat → Int) (i : Nat) : Int := if i / 8 < n then p (n - 1 - i / 8) / 2 ^ (i % 8) % 2 else 0
/-- k raw bits from the one at i on, the first one lowest. -/
def rsum (n : Nat) (p : Nat → Int) (i : Nat) : Nat → Int
  | 0 => 0
  | k + 1 => rsum n p i k + rbit n p (i + k) * 2 ^ k
theorem rbit_bd (n : Nat) (p : Nat → Int) (i : Nat) : 0 ≤ rbit n p i ∧ rbit n p i ≤ 1 := by
  unfold rbit; split <;> omega
theorem rsum_bd (n : Nat) (p : Nat → Int) (i : Nat) : ∀ k, 0 ≤ rsum n p i k ∧ rsum n p i k < 2 ^ k
  | 0 => ⟨Int.le_refl _, by show (0 : Int) < 2 ^ 0; decide⟩
  | k + 1 => by
    have h := rsum_bd n p i k
    have hb := rbit_bd n p (i + k)
    rw [rsum, Int.pow_succ]
    have hp : (0 : Int) < 2 ^ k := Int.pow_pos (by decide)
    generalize (2 : Int) ^ k = q at *
    obtain e | e : rbit n p (i + k) = 0 ∨ rbit n p (i + k) = 1 := by omega
    · rw [e]; omega
    · rw [e]; omega
theorem rsum_at (n : Nat) (p : Nat → Int) (i : Nat) : ∀ k j, j < k → rsum n p i k / 2 ^ j % 2 = rbit n p (i + j)
  | 0, j, h => by omega
  | k + 1, j, h => by
    have hs := rsum_bd n p i k
    have hb := rbit_bd n p (i + k)
    rw [rsum]
    by_cases e : j = k
    · subst e
      rw [Int.add_mul_ediv_right _ _ (Int.ne_of_gt (Int.pow_pos (by decide))), Int.ediv_eq_zero_of_lt hs.1 hs.2]
      omega
    · have hj : j < k := by omega
      rw [← rsum_at n p i k j hj]
      obtain ⟨d, rfl⟩ : ∃ d, k = j + (d + 1) := ⟨k - j - 1, by omega⟩
      have e1 : rbit n p (i + (j + (d + 1))) * 2 ^ (j + (d + 1)) = (rbit n p (i + (j + (d + 1))) * 2 ^ d * 2) * 2 ^ j := by
        rw [Int.pow_add, Int.pow_succ, Int.mul_comm ((2 : Int) ^ j), ← Int.mul_assoc, ← Int.mul_assoc]
      rw [e1, Int.add_mul_ediv_right _ _ (Int.ne_of_gt (Int.pow_pos (by decide)))]
      omega

/-- The number of the first so many digits to the base 256. -/
def numR (D : Nat → Int) : Nat → Int
  | 0 => 0
  | k + 1 => numR D k * 256 + D k
def p256 : Nat → Int
  | 0 => 1
  | k + 1 => p256 k * 256
theorem p256_pos : ∀ k, 0 < p256 k
  | 0 => by decide
  | k + 1 => by have := p256_pos k; rw [p256]; omega
theorem num_bd {D : Nat → Int} (h : Byte D) : ∀ k, 0 ≤ numR D k ∧ numR D k < p256 k
  | 0 => ⟨Int.le_refl _, by show (0 : Int) < 1; decide⟩
  | k + 1 => by have := num_bd h k; have hd := h k; rw [numR, p256]; omega
theorem num_congr {D E : Nat → Int} : ∀ k, (∀ i, i < k → D i = E i) → numR D k = numR E k
  | 0, _ => rfl
  | k + 1, h => by rw [numR, numR, num_congr k (fun i hi => h i (by omega)), h k (by omega)]
/-- What adding makes of the number, where it does not grow too long. -/
theorem num_add : ∀ (k : Nat) (n : Int) (f : Nat → Int), Byte f → 0 ≤ n → numR f k + n < p256 k → numR (addF k n f) k = numR f k + n
  | 0, n, f, _, h0, h => by
    have : numR f 0 + n < 1 := h
    have e : numR f 0 = 0 := rfl
    rw [e] at this ⊢
    show (0 : Int) = _
    omega
  | k + 1, n, f, hf, h0, h => by
    have hk := hf k
    rw [numR, p256] at h
    rw [addF, numR, numR]
    have hs : Byte (setF f k ((n + f k) % 256)) := hf.set k (by omega) (by omega)
    have e1 : numR (setF f k ((n + f k) % 256)) k = numR f k := num_congr k fun i hi => setF_other _ _ (by omega)
    rw [num_add k ((n + f k) / 256) _ hs (by omega) (by rw [e1]; omega), e1, addF_above _ _ _ _ (Nat.le_refl _), setF_same]
    omega

/-- The writer's number never grows too long. -/
structure Mo.Fit (m : Mo) : Prop where
  f : numR m.D m.nD + m.rng ≤ p256 m.nD
theorem fit_new : Mo.new.Fit := ⟨by decide⟩
/-- The number of the writer's end lies in the writer's range. -/
structure Mo.In (m e : Mo) : Prop where
  n : m.nD ≤ e.nD
  lo : numR m.D m.nD ≤ numR e.D m.nD
  hi : numR e.D m.nD < numR m.D m.nD + m.rng

theorem sym_num {m : Mo} {a b t : Int} (hg : m.Good) (hm : May a b t) (hf : m.Fit) : numR (m.sym a b t).D m.nD = numR m.D m.nD + a * (m.rng / t) ∧ a * (m.rng / t) + m.part a b t ≤ m.rng := by
  have hp := part_bd hg.r1 hm
  have hff := hf.f
  have key : a * (m.rng / t) + m.part a b t ≤ m.rng := by
    obtain ⟨a0, ab, bt, t1⟩ := hm
    have hrr : m.rng / t * t ≤ m.rng := Int.ediv_mul_le _ (by omega)
    unfold Mo.part
    split
    · omega
    · generalize m.rng / t = r at *
      have k6 : a * r + (b - a) * r = b * r := by rw [← Int.add_mul]; congr 1; omega
      have k7 : b * r ≤ t * r := Int.mul_le_mul_of_nonneg_right bt (by omega)
      have k8 : t * r = r * t := Int.mul_comm _ _
      omega
  refine ⟨?_, key⟩
  show numR (addF m.nD (a * (m.rng / t)) m.D) m.nD = _
  exact num_add _ _ _ hg.ok.d hp.2.2.1 (by omega)
theorem sym_fit {m : Mo} {a b t : Int} (hg : m.Good) (hm : May a b t) (hf : m.Fit) : (m.sym a b t).Fit := by
  obtain ⟨h1, h2⟩ := sym_num hg hm hf
  have := hf.f
  refine ⟨?_⟩
  show numR (m.sym a b t).D m.nD + m.part a b t ≤ p256 m.nD
  rw [h1]; omega
theorem grow_num {m : Mo} (h : m.Ok) : numR m.grow.D m.grow.nD = numR m.D m.nD * 256 := by
  show numR m.D (m.nD + 1) = _
  rw [numR, h.dz m.nD (Nat.le_refl _)]; omega
theorem grow_fit {m : Mo} (h : m.Ok) (hf : m.Fit) : m.grow.Fit := by
  have := hf.f
  refine ⟨?_⟩
  rw [grow_num h]
  show _ + m.rng * 256 ≤ p256 (m.nD + 1)
  rw [p256]; omega
theorem wide_fit {m : Mo} (h : m.Ok) (hf : m.Fit) : m.wide.Fit := by
  unfold Mo.wide; split
  · exact grow_fit (grow_ok h) (grow_fit h hf)
  · split
    · exact grow_fit h hf
    · exact hf
theorem put_fit {m : Mo} {a b t : Int} (hg : m.Good) (hm : May a b t) (hf : m.Fit) : (m.put a b t).Fit := wide_fit (sym_ok hg.ok a b t) (sym_fit hg hm hf)
theorem raw_fit {m : Mo} (hf : m.Fit) (k : Nat) (x : Int) : (Mo.raw k x m).Fit := by
  obtain ⟨h1, h2, h3, h4⟩ := raw_nR k x m
  refine ⟨?_⟩
  rw [h2, h3, h4]; exact hf.f

theorem in_self {m : Mo} (h : m.Good) : m.In m := by
  have := h.r1
  exact ⟨Nat.le_refl _, Int.le_refl _, by omega⟩
theorem in_grow {m e : Mo} (h : m.Ok) (he : e.Ok) (hi : m.grow.In e) : m.In e := by
  have h1 := hi.lo
  have h2 := hi.hi
  have hn : m.nD + 1 ≤ e.nD := hi.n
  have hb := he.d m.nD
  rw [grow_num h] at h1 h2
  have e1 : numR e.D m.grow.nD = numR e.D m.nD * 256 + e.D m.nD := rfl
  have e2 : m.grow.rng = m.rng * 256 := rfl
  rw [e1] at h1 h2
  rw [e2] at h2
  exact ⟨by omega, by omega, by omega⟩
theorem in_wide {m e : Mo} (h : m.Ok) (he : e.Ok) (hi : m.wide.In e) : m.In e := by
  unfold Mo.wide at hi
  split at hi
  · exact in_grow h he (in_grow (grow_ok h) he hi)
  · split at hi
    · exact in_grow h he hi
    · exact hi
theorem in_sym {m e : Mo} {a b t : Int} (hg : m.Good) (hm : May a b t) (hf : m.Fit) (hi : (m.sym a b t).In e) : m.In e := by
  obtain ⟨h1, h2⟩ := sym_num hg hm hf
  have hp := part_bd hg.r1 hm
  have k1 := hi.lo
  have k2 := hi.hi
  have k3 : m.nD ≤ e.nD := hi.n
  have e0 : (m.sym a b t).nD = m.nD := rfl
  have e1 : (m.sym a b t).rng = m.part a b t := rfl
  rw [e0, h1] at k1 k2
  rw [e1] at k2
  exact ⟨k3, by omega, by omega⟩
theorem in_raw {m e : Mo} (k : Nat) (x : Int) (hi : (Mo.raw k x m).In e) : m.In e := by
  obtain ⟨h1, h2, h3, h4⟩ := raw_nR k x m
  have k1 := hi.lo
  have k2 := hi.hi
  have k3 := hi.n
  rw [h2, h4] at k1
  rw [h2, h4, h3] at k2
  rw [h2] at k3
  exact ⟨k3, k1, k2⟩

/-- The reader that stands where the writer stood at m, of bytes whose first ones are the end's digits. -/
def Re.at (m e : Mo) : Re := ⟨m.rng, numR e.D m.nD - numR m.D m.nD, m.nD, m.nR⟩
theorem at_grow {m e : Mo} {p : Nat → Int} (h : m.Ok) (hp : ∀ i, i < e.nD → p i = e.D i) (hi : m.grow.In e) : (Re.at m e).grow p = Re.at m.grow e := by
  have hn : m.nD + 1 ≤ e.nD := hi.n
  unfold Re.grow Re.at
  have e1 : numR e.D m.grow.nD = numR e.D m.nD * 256 + e.D m.nD := rfl
  simp only [grow_num h, e1, hp m.nD (by omega)]
  show (⟨m.rng * 256, _, m.nD + 1, m.nR⟩ : Re) = ⟨m.rng * 256, _, m.nD + 1, m.nR⟩
  congr 1
  omega
theorem at_wide {m e : Mo} {p : Nat → Int} (h : m.Ok) (he : e.Ok) (hp : ∀ i, i < e.nD → p i = e.D i) (hi : m.wide.In e) : (Re.at m e).wide p = Re.at m.wide e := by
  unfold Re.wide
  have e1 : (Re.at m e).rng = m.rng := rfl
  rw [e1]
  unfold Mo.wide at hi ⊢
  split at hi
  · rename_i h1
    rw [if_pos h1, if_pos h1, at_grow h hp (in_grow (grow_ok h) he hi), at_grow (grow_ok h) hp hi]
  · rename_i h1
    rw [if_neg h1, if_neg h1]
    split at hi
    · rename_i h2
      rw [if_pos h2, if_pos h2, at_grow h hp hi]
    · rename_i h2
      rw [if_neg h2, if_neg h2]
/-- What was put is read: a symbol. -/
theorem at_put {m e : Mo} {p : Nat → Int} {a b t : Int} (hg : m.Good) (hf : m.Fit) (hm : May a b t) (he : e.Ok) (hp : ∀ i, i < e.nD → p i = e.D i) (hi : (m.put a b t).In e) :
    (Re.at m e).take p a b t = Re.at (m.put a b t) e ∧ a ≤ (Re.at m e).get t ∧ (Re.at m e).get t < b := by
  have his : (m.sym a b t).In e := in_wide (sym_ok hg.ok a b t) he hi
  obtain ⟨h1, h2⟩ := sym_num hg hm hf
  have hpb := part_bd hg.r1 hm
  have k1 := his.lo
  have k2 := his.hi
  have e0 : (m.sym a b t).nD = m.nD := rfl
  have e1 : (m.sym a b t).rng = m.part a b t := rfl
  rw [e0, h1] at k1 k2
  rw [e1] at k2
  have hs : (Re.at m e).sym a b t = Re.at (m.sym a b t) e := by
    have q1 : (Re.at m e).part a b t = m.part a b t := rfl
    have q2 : (Re.at m e).rng = m.rng := rfl
    have q3 : (Re.at m e).val = numR e.D m.nD - numR m.D m.nD := rfl
    unfold Re.sym
    rw [q1, q2, q3]
    show (⟨m.part a b t, _, m.nD, m.nR⟩ : Re) = ⟨m.part a b t, numR e.D m.nD - numR (m.sym a b t).D m.nD, m.nD, m.nR⟩
    rw [h1]
    congr 1
    unfold clampR
    rw [if_neg (by omega), if_neg (by omega)]
    omega
  refine ⟨?_, ?_⟩
  · unfold Re.take
    rw [hs, at_wide (sym_ok hg.ok a b t) he hp hi]
    rfl
  · unfold Re.get
    have q2 : (Re.at m e).rng = m.rng := rfl
    have q3 : (Re.at m e).val = numR e.D m.nD - numR m.D m.nD := rfl
    rw [q2, q3]
    obtain ⟨a0, ab, bt, t1⟩ := hm
    unfold Mo.part at k2
    generalize m.rng / t = r at *
    generalize numR e.D m.nD = y at *
    generalize numR m.D m.nD = y' at *
    obtain ⟨v, hv⟩ : ∃ v, y - y' = v := ⟨_, rfl⟩
    rw [hv]
    have hv1 : a * r ≤ v := by omega
    have l1 : a ≤ v / r := by rw [Int.le_ediv_iff_mul_le (by omega)]; exact hv1
    by_cases hbt : b = t
    · subst hbt
      constructor <;> split <;> omega
    · rw [if_neg hbt] at k2
      have k6 : a * r + (b - a) * r = b * r := by rw [← Int.add_mul]; congr 1; omega
      have l2 : v / r < b := by rw [Int.ediv_lt_iff_lt_mul (by omega)]; omega
      constructor <;> split <;> omega

/-- The end's raw bits. -/
theorem raw_at : ∀ (k : Nat) (x : Int) (m : Mo) (j : Nat), (j < m.nR → (Mo.raw k x m).R j = m.R j) ∧ (m.nR ≤ j → j < m.nR + k → (Mo.raw k x m).R j = x / 2 ^ (j - m.nR) % 2)
  | 0, x, m, j => ⟨fun _ => rfl, fun h1 h2 => by omega⟩
  | k + 1, x, m, j => by
    have ih := raw_at k x m j
    have hn := (raw_nR k x m).1
    rw [raw_succ]
    have e : ((Mo.raw k x m).bit (x / 2 ^ k % 2)).R j = setF (Mo.raw k x m).R (Mo.raw k x m).nR (x / 2 ^ k % 2) j := rfl
    rw [e, hn]
    constructor
    · intro h; rw [setF_other _ _ (by omega)]; exact ih.1 h
    · intro h1 h2
      by_cases hj : j = m.nR + k
      · subst hj; rw [setF_same, show m.nR + k - m.nR = k by omega]
      · rw [setF_other _ _ hj]; exact ih.2 h1 (by omega)
/-- A raw bit of a packet is the writer's. -/
theorem pk_rbit {e : Mo} {z : Nat} {p : Nat → Int} (he : e.Ok) (hz : 0 ≤ e.left z) (hp : ∀ i, i < z → p i = e.pk z i) {i : Nat} (hi : i < e.nR) : rbit z p i = e.R i := by
  unfold Mo.left at hz
  have h8 : i / 8 < z := by omega
  unfold rbit
  rw [if_pos h8, hp _ (by omega)]
  unfold Mo.pk
  rw [he.dz _ (by omega), show z - 1 - (z - 1 - i / 8) = i / 8 by omega]
  have l := Nat.mod_lt i (show 0 < 8 by decide)
  have ei := Nat.div_add_mod i 8
  have hb := he.b
  generalize i / 8 = q at *
  generalize i % 8 = r at *
  subst ei
  unfold rawB
  have b0 := hb (q * 8 + 0)
  have b1 := hb (q * 8 + 1)
  have b2 := hb (q * 8 + 2)
  have b3 := hb (q * 8 + 3)
  have b4 := hb (q * 8 + 4)
  have b5 := hb (q * 8 + 5)
  have b6 := hb (q * 8 + 6)
  have b7 := hb (q * 8 + 7)
  rw [show 8 * q + r = q * 8 + r by omega]
  match r, l with
  | 0, _ => omega
  | 1, _ => omega
  | 2, _ => omega
  | 3, _ => omega
  | 4, _ => omega
  | 5, _ => omega
  | 6, _ => omega
  | 7, _ => omega
theorem rsum_of {n : Nat} {p : Nat → Int} {i : Nat} {x : Int} (hx : 0 ≤ x) : ∀ k, (∀ j, j < k → rbit n p (i + j) = x / 2 ^ j % 2) → rsum n p i k = x % 2 ^ k
  | 0, _ => by rw [rsum]; simp [Int.emod_one]
  | k + 1, h => by
    rw [rsum, rsum_of hx k (fun j hj => h j (by omega)), h k (by omega)]
    obtain ⟨y, rfl⟩ : ∃ y : Nat, x = y := ⟨x.toNat, by omega⟩
    have e := Nat.mod_pow_succ (x := y) (b := 2) (k := k)
    have e' : ((y % 2 ^ (k + 1) : Nat) : Int) = ((y % 2 ^ k + 2 ^ k * (y / 2 ^ k % 2) : Nat) : Int) := by rw [e]
    push_cast at e'
    rw [e', Int.mul_comm ((2 : Int) ^ k)]
end Go.Proofs.YtfgpmdikkncckaaDoor
