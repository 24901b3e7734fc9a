/-
  Plain mathematics of layer 6 (writer): what a writer is (its range, its digits to the base 256, its raw bits), what putting a symbol and raw bits makes of it, its packet. No condition; no program.
-/
import Derived.WalkKit
namespace Go.Proofs.YtfgpmdikkncckaaDoor
set_option linter.unusedVariables false
open Go.RowKit

def setF (f : Nat → Int) (k : Nat) (v : Int) : Nat → Int := fun i => if i = k then v else f i
theorem setF_same (f : Nat → Int) (k : Nat) (v : Int) : setF f k v k = v := if_pos rfl
theorem setF_other (f : Nat → Int) {k i : Nat} (v : Int) (h : i ≠ k) : setF f k v i = f i := if_neg h
theorem setF_self (f : Nat → Int) (k : Nat) : setF f k (f k) = f := by
  funext i; unfold setF; split
  · rename_i h; rw [h]
  · rfl

/-- The number of the first so many digits is more by n. -/
def addF : Nat → Int → (Nat → Int) → (Nat → Int)
  | 0, _, f => f
  | k + 1, n, f => addF k ((n + f k) / 256) (setF f k ((n + f k) % 256))
/-- .. by one, the machine's way. -/
def carryF : Nat → (Nat → Int) → (Nat → Int)
  | 0, f => f
  | k + 1, f => if (f k + 1) % 256 = 0 then carryF k (setF f k 0) else setF f k ((f k + 1) % 256)

def Byte (f : Nat → Int) : Prop := ∀ i, 0 ≤ f i ∧ f i ≤ 255
theorem Byte.set {f : Nat → Int} (h : Byte f) (k : Nat) {v : Int} (h0 : 0 ≤ v) (h1 : v ≤ 255) : Byte (setF f k v) := by
  intro i; unfold setF; split
  · exact ⟨h0, h1⟩
  · exact h i

theorem addF_zero : ∀ (k : Nat) (f : Nat → Int), Byte f → addF k 0 f = f
  | 0, f, _ => rfl
  | k + 1, f, h => by
    have hk := h k
    rw [addF, show (0 + f k) / 256 = 0 by omega, show (0 + f k) % 256 = f k by omega, setF_self]
    exact addF_zero k f h
theorem addF_one : ∀ (k : Nat) (f : Nat → Int), Byte f → addF k 1 f = carryF k f
  | 0, f, _ => rfl
  | k + 1, f, h => by
    have hk := h k
    rw [addF, carryF]
    by_cases hz : (f k + 1) % 256 = 0
    · rw [if_pos hz, show (1 + f k) / 256 = 1 by omega, show (1 + f k) % 256 = 0 by omega]
      exact addF_one k _ (h.set k (by omega) (by omega))
    · rw [if_neg hz, show (1 + f k) / 256 = 0 by omega, show (1 + f k) % 256 = (f k + 1) % 256 by omega]
      exact addF_zero k _ (h.set k (by omega) (by omega))
theorem addF_byte : ∀ (k : Nat) (n : Int) (f : Nat → Int), Byte f → Byte (addF k n f)
  | 0, _, _, h => h
  | k + 1, n, f, h => addF_byte k _ _ (h.set k (by omega) (by omega))
theorem addF_above : ∀ (k : Nat) (n : Int) (f : Nat → Int) (i : Nat), k ≤ i → addF k n f i = f i
  | 0, _, _, _, _ => rfl
  | k + 1, n, f, i, h => by rw [addF, addF_above k _ _ i (by omega), setF_other _ _ (by omega)]
theorem addF_congr : ∀ (k : Nat) (n : Int) (f g : Nat → Int), (∀ i, i < k → f i = g i) → ∀ i, i < k → addF k n f i = addF k n g i
  | 0, _, _, _, _ => fun i hi => by omega
  | k + 1, n, f, g, h => fun i hi => by
    rw [addF, addF, h k (by omega)]
    by_cases e : i < k
    · refine addF_congr k _ _ _ (fun j hj => ?_) i e
      rw [setF_other _ _ (by omega), setF_other _ _ (by omega), h j (by omega)]
    · have : i = k := by omega
      subst this
      rw [addF_above _ _ _ _ (Nat.le_refl _), addF_above _ _ _ _ (Nat.le_refl _), setF_same, setF_same]
theorem carryF_byte (k : Nat) (f : Nat → Int) (h : Byte f) : Byte (carryF k f) := by rw [← addF_one k f h]; exact addF_byte k 1 f h
theorem carryF_above (k : Nat) (f : Nat → Int) (h : Byte f) (i : Nat) (hi : k ≤ i) : carryF k f i = f i := by rw [← addF_one k f h]; exact addF_above k 1 f i hi

/-- A writer: its range, its digits (the last three are its low), its raw bits. -/
structure Mo where
  rng : Int
  D : Nat → Int
  nD : Nat
  R : Nat → Int
  nR : Nat

structure Mo.Ok (m : Mo) : Prop where
  n3 : 3 ≤ m.nD
  d : Byte m.D
  dz : ∀ i, m.nD ≤ i → m.D i = 0
  b : ∀ i, 0 ≤ m.R i ∧ m.R i ≤ 1
  bz : ∀ i, m.nR ≤ i → m.R i = 0
/-- .. and its range between two symbols. -/
structure Mo.Good (m : Mo) : Prop where
  ok : m.Ok
  r1 : 65536 < m.rng
  r2 : m.rng ≤ 16777216

def Mo.new : Mo := ⟨16777216, fun _ => 0, 3, fun _ => 0, 0⟩
/-- The range that a symbol has, ahead of bytes being put. -/
def Mo.part (m : Mo) (a b t : Int) : Int := if b = t then m.rng - a * (m.rng / t) else (b - a) * (m.rng / t)
/-- A symbol, ahead of bytes being put. -/
def Mo.sym (m : Mo) (a b t : Int) : Mo := { m with rng := m.part a b t, D := addF m.nD (a * (m.rng / t)) m.D }
/-- A byte is put. -/
def Mo.grow (m : Mo) : Mo := { m with rng := m.rng * 256, nD := m.nD + 1 }
def Mo.wide (m : Mo) : Mo := if m.rng ≤ 256 then m.grow.grow else if m.rng ≤ 65536 then m.grow else m
def Mo.put (m : Mo) (a b t : Int) : Mo := (m.sym a b t).wide
def Mo.bit (m : Mo) (v : Int) : Mo := { m with R := setF m.R m.nR v, nR := m.nR + 1 }
def Mo.raw : Nat → Int → Mo → Mo
  | 0, _, m => m
  | k + 1, x, m => Mo.raw k (x / 2) (m.bit (x % 2))
def Mo.left (m : Mo) (z : Nat) : Int := 8 * (z : Int) - 8 * (m.nD : Int) - (m.nR : Int)
/-- The raw bits of a byte. -/
def rawB (R : Nat → Int) (j : Nat) : Int := R (j * 8 + 0) + R (j * 8 + 1) * 2 + R (j * 8 + 2) * 4 + R (j * 8 + 3) * 8 + R (j * 8 + 4) * 16 + R (j * 8 + 5) * 32 + R (j * 8 + 6) * 64 + R (j * 8 + 7) * 128
/-- The packet's byte. -/
def Mo.pk (m : Mo) (z i : Nat) : Int := m.D i + rawB m.R (z - 1 - i)
/-- May a symbol be put? -/
def May (a b t : Int) : Prop := 0 ≤ a ∧ a < b ∧ b ≤ t ∧ t ≤ 4096

theorem zero_bd (n : Int) (h : 0 ≤ n) : (0 : Int) ≤ 0 ∧ (0 : Int) ≤ n := ⟨by decide, h⟩
theorem new_ok : Mo.new.Good := ⟨⟨by decide, fun i => zero_bd _ (by decide), fun i _ => rfl, fun i => zero_bd _ (by decide), fun i _ => rfl⟩, by decide, by decide⟩

theorem part_bd {m : Mo} {a b t : Int} (h1 : 65536 < m.rng) (h : May a b t) : 16 ≤ m.rng / t ∧ m.rng / t ≤ m.rng ∧ 0 ≤ a * (m.rng / t) ∧ a * (m.rng / t) ≤ m.rng ∧ (b - a) * (m.rng / t) ≤ m.rng ∧ 16 ≤ m.part a b t ∧ m.part a b t ≤ m.rng := by
  obtain ⟨a0, ab, bt, t1⟩ := h
  have ht : 0 < t := by omega
  have hr : 16 ≤ m.rng / t := by
    rw [Int.le_ediv_iff_mul_le ht]; omega
  have hrr : m.rng / t * t ≤ m.rng := Int.ediv_mul_le _ (by omega)
  unfold Mo.part
  generalize m.rng / t = r at *
  have k1 : 0 ≤ a * r := Int.mul_nonneg a0 (by omega)
  have k2 : r ≤ (t - a) * r := by
    have : 1 * r ≤ (t - a) * r := Int.mul_le_mul_of_nonneg_right (by omega) (by omega)
    omega
  have k3 : (t - a) * r = t * r - a * r := Int.sub_mul _ _ _
  have k4 : t * r = r * t := Int.mul_comm _ _
  have k5 : r ≤ (b - a) * r := by
    have : 1 * r ≤ (b - a) * r := Int.mul_le_mul_of_nonneg_right (by omega) (by omega)
    omega
  have k6 : (b - a) * r ≤ (t - a) * r := Int.mul_le_mul_of_nonneg_right (by omega) (by omega)
  refine ⟨hr, by omega, k1, by omega, by omega, ?_, ?_⟩
  · split <;> omega
  · split <;> omega

theorem grow_ok {m : Mo} (h : m.Ok) : m.grow.Ok := ⟨Nat.le_succ_of_le h.n3, h.d, fun i hi => h.dz i (Nat.le_of_succ_le hi), h.b, h.bz⟩
theorem sym_ok {m : Mo} (h : m.Ok) (a b t : Int) : (m.sym a b t).Ok := ⟨h.n3, addF_byte _ _ _ h.d, fun i hi => (addF_above m.nD _ _ i hi).trans (h.dz i hi), h.b, h.bz⟩
theorem put_ok {m : Mo} {a b t : Int} (h : m.Good) (hm : May a b t) : (m.put a b t).Good := by
  have hp := part_bd h.r1 hm
  have hs := sym_ok h.ok a b t
  have hr := h.r2
  have e : (m.sym a b t).rng = m.part a b t := rfl
  unfold Mo.put Mo.wide
  rw [e]
  generalize m.part a b t = g at *
  split
  · exact ⟨grow_ok (grow_ok hs), by show 65536 < (m.sym a b t).rng * 256 * 256; omega, by show (m.sym a b t).rng * 256 * 256 ≤ _; omega⟩
  · split
    · exact ⟨grow_ok hs, by show 65536 < (m.sym a b t).rng * 256; omega, by show (m.sym a b t).rng * 256 ≤ _; omega⟩
    · exact ⟨hs, by omega, by omega⟩
theorem put_nR (m : Mo) (a b t : Int) : (m.put a b t).nR = m.nR ∧ (m.put a b t).R = m.R := by
  unfold Mo.put Mo.wide; split
  · exact ⟨rfl, rfl⟩
  · split <;> exact ⟨rfl, rfl⟩
theorem put_nD (m : Mo) (a b t : Int) : m.nD ≤ (m.put a b t).nD ∧ (m.put a b t).nD ≤ m.nD + 2 := by
  unfold Mo.put Mo.wide; split
  · exact ⟨Nat.le_add_right m.nD 2, Nat.le_refl _⟩
  · split
    · exact ⟨Nat.le_add_right m.nD 1, Nat.le_add_right (m.nD + 1) 1⟩
    · exact ⟨Nat.le_refl _, Nat.le_add_right m.nD 2⟩
theorem bit_ok {m : Mo} (h : m.Ok) {v : Int} (h0 : 0 ≤ v) (h1 : v ≤ 1) : (m.bit v).Ok := by
  refine ⟨h.n3, h.d, h.dz, fun i => ?_, fun i hi => ?_⟩
  · show 0 ≤ setF _ _ _ i ∧ setF _ _ _ i ≤ 1
    unfold setF; split
    · exact ⟨h0, h1⟩
    · exact h.b i
  · show setF _ _ _ i = 0
    have hi' : m.nR + 1 ≤ i := hi
    rw [setF_other _ _ (by omega)]
    exact h.bz i (by omega)
theorem raw_ok : ∀ (k : Nat) (x : Int) (m : Mo), m.Ok → (Mo.raw k x m).Ok
  | 0, _, _, h => h
  | k + 1, x, m, h => raw_ok k _ _ (bit_ok h (by omega) (by omega))
theorem raw_nR : ∀ (k : Nat) (x : Int) (m : Mo), (Mo.raw k x m).nR = m.nR + k ∧ (Mo.raw k x m).nD = m.nD ∧ (Mo.raw k x m).rng = m.rng ∧ (Mo.raw k x m).D = m.D
  | 0, _, _ => ⟨rfl, rfl, rfl, rfl⟩
  | k + 1, x, m => by
    obtain ⟨h1, h2, h3, h4⟩ := raw_nR k (x / 2) (m.bit (x % 2))
    rw [Mo.raw]
    exact ⟨by rw [h1]; show m.nR + 1 + k = _; omega, h2, h3, h4⟩
theorem raw_good {m : Mo} (h : m.Good) (k : Nat) (x : Int) : (Mo.raw k x m).Good := by
  obtain ⟨_, _, h3, _⟩ := raw_nR k x m
  exact ⟨raw_ok k x m h.ok, by rw [h3]; exact h.r1, by rw [h3]; exact h.r2⟩
theorem raw_succ : ∀ (k : Nat) (x : Int) (m : Mo), Mo.raw (k + 1) x m = (Mo.raw k x m).bit (x / 2 ^ k % 2)
  | 0, x, m => by rw [Mo.raw, Mo.raw, Mo.raw]; simp
  | k + 1, x, m => by
    rw [Mo.raw, raw_succ k (x / 2) (m.bit (x % 2))]
    rw [show Mo.raw (k + 1) x m = Mo.raw k (x / 2) (m.bit (x % 2)) from rfl]
    congr 1
    rw [Int.pow_succ, Int.mul_comm, Int.ediv_ediv_of_nonneg (by decide)]
theorem left_put (m : Mo) (z : Nat) (a b t : Int) : (m.put a b t).left z ≤ m.left z := by
  have h1 := put_nD m a b t
  have h2 := (put_nR m a b t).1
  unfold Mo.left; omega

theorem rawB_bd {m : Mo} (h : m.Ok) (j : Nat) : 0 ≤ rawB m.R j ∧ rawB m.R j ≤ 255 := by
  unfold rawB
  have h0 := h.b (j * 8 + 0)
  have h1 := h.b (j * 8 + 1)
  have h2 := h.b (j * 8 + 2)
  have h3 := h.b (j * 8 + 3)
  have h4 := h.b (j * 8 + 4)
  have h5 := h.b (j * 8 + 5)
  have h6 := h.b (j * 8 + 6)
  have h7 := h.b (j * 8 + 7)
  omega
theorem rawB_zero {m : Mo} (h : m.Ok) (j : Nat) (hj : m.nR ≤ j * 8) : rawB m.R j = 0 := by
  unfold rawB
  rw [h.bz _ (by omega), h.bz _ (by omega), h.bz _ (by omega), h.bz _ (by omega), h.bz _ (by omega), h.bz _ (by omega), h.bz _ (by omega), h.bz _ (by omega)]
  decide

/-- A raw bit more: the byte that it belongs to is more by it, the others are as they were. -/
theorem rawB_bit {m : Mo} (h : m.Ok) (v : Int) : rawB (m.bit v).R (m.nR / 8) = rawB m.R (m.nR / 8) + v * 2 ^ (m.nR % 8) ∧ rawB m.R (m.nR / 8) < 2 ^ (m.nR % 8) := by
  have hz := h.bz
  have hb := h.b
  show rawB (setF m.R m.nR v) (m.nR / 8) = _ ∧ _
  generalize m.R = R at *
  generalize hn : m.nR = n at *
  have e := Nat.div_add_mod n 8
  have l := Nat.mod_lt n (show 0 < 8 by decide)
  generalize n / 8 = q at *
  generalize n % 8 = r at *
  subst e
  clear hn
  unfold rawB
  have z : ∀ i, r ≤ i → R (q * 8 + i) = 0 := fun i hi => hz _ (by omega)
  have s : ∀ i, i ≠ r → setF R (8 * q + r) v (q * 8 + i) = R (q * 8 + i) := fun i hi => setF_other _ _ (by omega)
  have t : setF R (8 * q + r) v (q * 8 + r) = v := by rw [show q * 8 + r = 8 * q + r by omega]; exact setF_same _ _ _
  have b0 := hb (q * 8 + 0)
  have b1 := hb (q * 8 + 1)
  have b2 := hb (q * 8 + 2)
  have b3 := hb (q * 8 + 3)
  have b4 := hb (q * 8 + 4)
  have b5 := hb (q * 8 + 5)
  have b6 := hb (q * 8 + 6)
  match r, l with
  | 0, _ => rw [t, s 1 (by decide), s 2 (by decide), s 3 (by decide), s 4 (by decide), s 5 (by decide), s 6 (by decide), s 7 (by decide), z 0 (by decide), z 1 (by decide), z 2 (by decide), z 3 (by decide), z 4 (by decide), z 5 (by decide), z 6 (by decide), z 7 (by decide)]; constructor <;> omega
  | 1, _ => rw [s 0 (by decide), t, s 2 (by decide), s 3 (by decide), s 4 (by decide), s 5 (by decide), s 6 (by decide), s 7 (by decide), z 1 (by decide), z 2 (by decide), z 3 (by decide), z 4 (by decide), z 5 (by decide), z 6 (by decide), z 7 (by decide)]; constructor <;> omega
  | 2, _ => rw [s 0 (by decide), s 1 (by decide), t, s 3 (by decide), s 4 (by decide), s 5 (by decide), s 6 (by decide), s 7 (by decide), z 2 (by decide), z 3 (by decide), z 4 (by decide), z 5 (by decide), z 6 (by decide), z 7 (by decide)]; constructor <;> omega
  | 3, _ => rw [s 0 (by decide), s 1 (by decide), s 2 (by decide), t, s 4 (by decide), s 5 (by decide), s 6 (by decide), s 7 (by decide), z 3 (by decide), z 4 (by decide), z 5 (by decide), z 6 (by decide), z 7 (by decide)]; constructor <;> omega
  | 4, _ => rw [s 0 (by decide), s 1 (by decide), s 2 (by decide), s 3 (by decide), t, s 5 (by decide), s 6 (by decide), s 7 (by decide), z 4 (by decide), z 5 (by decide), z 6 (by decide), z 7 (by decide)]; constructor <;> omega
  | 5, _ => rw [s 0 (by decide), s 1 (by decide), s 2 (by decide), s 3 (by decide), s 4 (by decide), t, s 6 (by decide), s 7 (by decide), z 5 (by decide), z 6 (by decide), z 7 (by decide)]; constructor <;> omega
  | 6, _ => rw [s 0 (by decide), s 1 (by decide), s 2 (by decide), s 3 (by decide), s 4 (by decide), s 5 (by decide), t, s 7 (by decide), z 6 (by decide), z 7 (by decide)]; constructor <;> omega
  | 7, _ => rw [s 0 (by decide), s 1 (by decide), s 2 (by decide), s 3 (by decide), s 4 (by decide), s 5 (by decide), s 6 (by decide), t, z 7 (by decide)]; constructor <;> omega
theorem rawB_bit_other {m : Mo} (v : Int) {j : Nat} (hj : j ≠ m.nR / 8) : rawB (m.bit v).R j = rawB m.R j := by
  show rawB (setF m.R m.nR v) j = _
  unfold rawB
  rw [setF_other _ _ (by omega), setF_other _ _ (by omega), setF_other _ _ (by omega), setF_other _ _ (by omega), setF_other _ _ (by omega), setF_other _ _ (by omega), setF_other _ _ (by omega), setF_other _ _ (by omega)]

/-- How the machine holds a writer of a size: low is its last three digits; as long as at least nothing is left the bytes lie in front, the raw bits behind. -/
structure Inv (z : Nat) (m : Mo) (low : Int) (f : Nat → Int) : Prop where
  ok : m.Ok
  low : low = m.D (m.nD - 3) * 65536 + m.D (m.nD - 2) * 256 + m.D (m.nD - 1)
  byte : Byte f
  front : 0 ≤ m.left z → ∀ i, i < m.nD - 3 → f i = m.D i
  back : 0 ≤ m.left z → ∀ i, m.nD - 3 ≤ i → i < z → f i = rawB m.R (z - 1 - i)
theorem Inv.low_bd {z : Nat} {m : Mo} {low : Int} {f : Nat → Int} (h : Inv z m low f) : 0 ≤ low ∧ low < 16777216 := by
  have h1 := h.ok.d (m.nD - 3)
  have h2 := h.ok.d (m.nD - 2)
  have h3 := h.ok.d (m.nD - 1)
  have := h.low
  omega
theorem inv_new (z : Nat) : Inv z Mo.new 0 (fun _ => 0) := by
  refine ⟨new_ok.ok, rfl, fun i => ⟨by decide, by decide⟩, fun _ i _ => rfl, fun _ i _ _ => ?_⟩
  rw [rawB_zero new_ok.ok _ (Nat.zero_le _)]

/-- The machine's way of putting a symbol, ahead of bytes being put. -/
theorem inv_sym {z : Nat} {m : Mo} {low : Int} {f : Nat → Int} {a b t : Int} (h : Inv z m low f) (hg : m.Good) (hm : May a b t) :
    (low + a * (m.rng / t) < 16777216 → Inv z (m.sym a b t) (low + a * (m.rng / t)) f) ∧
    (16777216 ≤ low + a * (m.rng / t) → Inv z (m.sym a b t) (low + a * (m.rng / t) - 16777216) (if 0 ≤ m.left z then carryF (m.nD - 3) f else f)) := by
  have hp := part_bd hg.r1 hm
  have hr := hg.r2
  have hn := h.ok.n3
  have hl := h.low_bd
  have hlow := h.low
  obtain ⟨n, hn⟩ : ∃ n, m.nD = n + 3 := ⟨m.nD - 3, by omega⟩
  have e1 : (m.sym a b t).D = addF (n + 3) (a * (m.rng / t)) m.D := by show addF m.nD _ _ = _; rw [hn]
  have e2 : (m.sym a b t).nD = n + 3 := hn
  have d0 := h.ok.d n
  have d1 := h.ok.d (n + 1)
  have d2 := h.ok.d (n + 2)
  rw [hn, show n + 3 - 3 = n by omega, show n + 3 - 2 = n + 1 by omega, show n + 3 - 1 = n + 2 by omega] at hlow
  have hsl : (m.sym a b t).left z = m.left z := rfl
  have hfr := h.front
  have hbk := h.back
  rw [hn, show n + 3 - 3 = n by omega] at hfr hbk
  rw [hn, show n + 3 - 3 = n by omega]
  generalize hu : a * (m.rng / t) = u at *
  -- the three last digits, and what goes on
  have step : addF (n + 3) u m.D = addF n ((low + u) / 16777216) (setF (setF (setF m.D (n + 2) ((low + u) % 256)) (n + 1) ((low + u) / 256 % 256)) n ((low + u) / 65536 % 256)) := by
    rw [addF, addF, addF]
    rw [setF_other _ _ (show n + 1 ≠ n + 2 by omega), setF_other _ _ (show n ≠ n + 1 by omega), setF_other _ _ (show n ≠ n + 2 by omega)]
    have q0 : (u + m.D (n + 2)) % 256 = (low + u) % 256 := by omega
    have q1 : ((u + m.D (n + 2)) / 256 + m.D (n + 1)) % 256 = (low + u) / 256 % 256 := by omega
    have q2 : (((u + m.D (n + 2)) / 256 + m.D (n + 1)) / 256 + m.D n) % 256 = (low + u) / 65536 % 256 := by omega
    have q3 : (((u + m.D (n + 2)) / 256 + m.D (n + 1)) / 256 + m.D n) / 256 = (low + u) / 16777216 := by omega
    rw [q0, q1, q2, q3]
  have hD3 : Byte (setF (setF (setF m.D (n + 2) ((low + u) % 256)) (n + 1) ((low + u) / 256 % 256)) n ((low + u) / 65536 % 256)) :=
    ((h.ok.d.set _ (by omega) (by omega)).set _ (by omega) (by omega)).set _ (by omega) (by omega)
  have hlast : ∀ c, addF n c (setF (setF (setF m.D (n + 2) ((low + u) % 256)) (n + 1) ((low + u) / 256 % 256)) n ((low + u) / 65536 % 256)) n * 65536 + addF n c (setF (setF (setF m.D (n + 2) ((low + u) % 256)) (n + 1) ((low + u) / 256 % 256)) n ((low + u) / 65536 % 256)) (n + 1) * 256 + addF n c (setF (setF (setF m.D (n + 2) ((low + u) % 256)) (n + 1) ((low + u) / 256 % 256)) n ((low + u) / 65536 % 256)) (n + 2) = (low + u) % 16777216 := by
    intro c
    rw [addF_above _ _ _ _ (Nat.le_refl _), addF_above _ _ _ _ (show n ≤ n + 1 by omega), addF_above _ _ _ _ (show n ≤ n + 2 by omega), setF_same, setF_other _ _ (show n + 1 ≠ n by omega), setF_same, setF_other _ _ (show n + 2 ≠ n by omega), setF_other _ _ (show n + 2 ≠ n + 1 by omega), setF_same]
    omega
  have hlo : ∀ i, i < n → (setF (setF (setF m.D (n + 2) ((low + u) % 256)) (n + 1) ((low + u) / 256 % 256)) n ((low + u) / 65536 % 256)) i = m.D i := fun i hi => by
    rw [setF_other _ _ (by omega), setF_other _ _ (by omega), setF_other _ _ (by omega)]
  refine ⟨fun hlt => ⟨sym_ok h.ok a b t, ?_, h.byte, fun hz i hi => ?_, fun hz i h1 h2 => ?_⟩, fun hge => ⟨sym_ok h.ok a b t, ?_, ?_, fun hz i hi => ?_, fun hz i h1 h2 => ?_⟩⟩
  · rw [e1, e2, show n + 3 - 3 = n by omega, show n + 3 - 2 = n + 1 by omega, show n + 3 - 1 = n + 2 by omega, step, hlast]; omega
  · rw [e2] at hi
    rw [hfr (by rw [← hsl]; exact hz) i (by omega), e1, step, show (low + u) / 16777216 = 0 by omega, addF_zero _ _ hD3, hlo i (by omega)]
  · rw [e2] at h1
    exact hbk (by rw [← hsl]; exact hz) i (by omega) h2
  · rw [e1, e2, show n + 3 - 3 = n by omega, show n + 3 - 2 = n + 1 by omega, show n + 3 - 1 = n + 2 by omega, step, hlast]; omega
  · split
    · exact carryF_byte _ _ h.byte
    · exact h.byte
  · rw [e2] at hi
    rw [hsl] at hz
    rw [if_pos hz, e1, step, show (low + u) / 16777216 = 1 by omega, ← addF_one _ _ h.byte]
    exact addF_congr n 1 _ _ (fun j hj => by rw [hlo j hj]; exact hfr hz j hj) i (by omega)
  · rw [e2] at h1
    rw [hsl] at hz
    rw [if_pos hz, carryF_above _ _ h.byte _ (by omega)]
    exact hbk hz i (by omega) h2

/-- The machine's way of putting a byte. -/
theorem inv_grow {z : Nat} {m : Mo} {low : Int} {f : Nat → Int} (h : Inv z m low f) :
    Inv z m.grow (low % 65536 * 256) (if 0 ≤ m.grow.left z then setF f (m.nD - 3) (low / 65536) else f) := by
  have hn := h.ok.n3
  have hl := h.low_bd
  have hlow := h.low
  obtain ⟨n, hn⟩ : ∃ n, m.nD = n + 3 := ⟨m.nD - 3, by omega⟩
  have hfr := h.front
  have hbk := h.back
  have e2 : m.grow.nD = n + 4 := by show m.nD + 1 = _; omega
  have e1 : m.grow.D = m.D := rfl
  have e3 : m.grow.R = m.R := rfl
  have el : m.grow.left z ≤ m.left z := by unfold Mo.left; show 8 * (z : Int) - 8 * ((m.nD + 1 : Nat) : Int) - (m.nR : Int) ≤ _; omega
  rw [hn, show n + 3 - 3 = n by omega] at hfr hbk
  rw [hn, show n + 3 - 3 = n by omega]
  rw [hn, show n + 3 - 3 = n by omega, show n + 3 - 2 = n + 1 by omega, show n + 3 - 1 = n + 2 by omega] at hlow
  have d0 := h.ok.d n
  have d1 := h.ok.d (n + 1)
  have d2 := h.ok.d (n + 2)
  have dz := h.ok.dz (n + 3) (by omega)
  refine ⟨grow_ok h.ok, ?_, ?_, fun hz i hi => ?_, fun hz i h1 h2 => ?_⟩
  · rw [e1, e2, show n + 4 - 3 = n + 1 by omega, show n + 4 - 2 = n + 2 by omega, show n + 4 - 1 = n + 3 by omega, dz]; omega
  · split
    · exact h.byte.set _ (by omega) (by omega)
    · exact h.byte
  · rw [if_pos hz]
    rw [e2] at hi
    by_cases e : i = n
    · subst e; rw [setF_same, e1]; omega
    · rw [setF_other _ _ e, hfr (by omega) i (by omega), e1]
  · rw [if_pos hz]
    rw [e2] at h1
    rw [setF_other _ _ (by omega), hbk (by omega) i (by omega) h2, e3]

/-- .. a raw bit. -/
theorem inv_bit {z : Nat} {m : Mo} {low v : Int} {f : Nat → Int} (h : Inv z m low f) (h0 : 0 ≤ v) (h1 : v ≤ 1) :
    Inv z (m.bit v) low (if 0 ≤ (m.bit v).left z then setF f (z - 1 - m.nR / 8) (f (z - 1 - m.nR / 8) + v * 2 ^ (m.nR % 8)) else f) ∧ (0 ≤ (m.bit v).left z → m.nR / 8 + m.nD < z ∧ f (z - 1 - m.nR / 8) < 2 ^ (m.nR % 8)) := by
  have hn := h.ok.n3
  have el : (m.bit v).left z = m.left z - 1 := by unfold Mo.left; show 8 * (z : Int) - 8 * (m.nD : Int) - ((m.nR + 1 : Nat) : Int) = _; omega
  have e2 : (m.bit v).nD = m.nD := rfl
  have e1 : (m.bit v).D = m.D := rfl
  have hbit := rawB_bit h.ok v
  have hrn : 0 ≤ (m.bit v).left z → m.nR / 8 + m.nD < z := by
    intro hz; unfold Mo.left at hz; rw [e2] at hz
    have : (m.bit v).nR = m.nR + 1 := rfl
    omega
  have hval : 0 ≤ (m.bit v).left z → f (z - 1 - m.nR / 8) = rawB m.R (m.nR / 8) := by
    intro hz
    have hlt := hrn hz
    rw [h.back (by omega) (z - 1 - m.nR / 8) (by omega) (by omega), show z - 1 - (z - 1 - m.nR / 8) = m.nR / 8 by omega]
  have hpos : (0 : Int) < 2 ^ (m.nR % 8) := Int.pow_pos (by decide)
  have hb := rawB_bd (bit_ok h.ok h0 h1) (m.nR / 8)
  refine ⟨⟨bit_ok h.ok h0 h1, h.low, ?_, fun hz i hi => ?_, fun hz i h2 h3 => ?_⟩, fun hz => ⟨hrn hz, by rw [hval hz]; exact hbit.2⟩⟩
  · split
    · rename_i hz
      rw [hval hz, ← hbit.1]
      exact h.byte.set _ hb.1 hb.2
    · exact h.byte
  · rw [if_pos hz]
    rw [e2] at hi
    have hlt := hrn hz
    rw [setF_other _ _ (by omega), h.front (by omega) i hi, e1]
  · rw [if_pos hz]
    rw [e2] at h2
    have hlt := hrn hz
    by_cases e : i = z - 1 - m.nR / 8
    · subst e
      rw [setF_same, hval hz, show z - 1 - (z - 1 - m.nR / 8) = m.nR / 8 by omega, hbit.1]
    · rw [setF_other _ _ e, h.back (by omega) i h2 h3, rawB_bit_other]
      omega

/-- What the machine's bytes are, as a packet. -/
theorem inv_pk {z : Nat} {m : Mo} {low : Int} {f : Nat → Int} (h : Inv z m low f) (hz : 0 ≤ m.left z) :
    m.nD ≤ z ∧ ∀ i, i < z → m.pk z i = if i < m.nD - 3 then f i else if i = m.nD - 3 then low / 65536 else if i = m.nD - 2 then low / 256 % 256 else if i = m.nD - 1 then low % 256 else f i := by
  have hn := h.ok.n3
  have hlow := h.low
  have d0 := h.ok.d (m.nD - 3)
  have d1 := h.ok.d (m.nD - 2)
  have d2 := h.ok.d (m.nD - 1)
  have hzz := hz
  unfold Mo.left at hzz
  refine ⟨by omega, fun i hi => ?_⟩
  unfold Mo.pk
  have hr : i < m.nD → rawB m.R (z - 1 - i) = 0 := fun hi => rawB_zero h.ok _ (by omega)
  split
  · rename_i hlt
    rw [hr (by omega), h.front hz i hlt]; omega
  · split
    · rename_i e; subst e; rw [hr (by omega)]; omega
    · split
      · rename_i e; subst e; rw [hr (by omega)]; omega
      · split
        · rename_i e; subst e; rw [hr (by omega)]; omega
        · rw [h.ok.dz i (by omega), h.back hz i (by omega) hi]; omega
theorem pk_bd {m : Mo} (h : m.Ok) {z i : Nat} (hz : 0 ≤ m.left z) (hi : i < z) : 0 ≤ m.pk z i ∧ m.pk z i ≤ 255 := by
  unfold Mo.pk
  have hb := rawB_bd h (z - 1 - i)
  have hd := h.d i
  unfold Mo.left at hz
  by_cases e : i < m.nD
  · rw [rawB_zero h _ (by omega)]; omega
  · rw [h.dz i (by omega)]; omega
end Go.Proofs.YtfgpmdikkncckaaDoor
