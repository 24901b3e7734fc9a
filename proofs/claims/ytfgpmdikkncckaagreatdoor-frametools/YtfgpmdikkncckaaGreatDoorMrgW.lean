/-
  Plain mathematics of layer 6 (writer): what a writer is (its range, its digits to the base 256, its raw bits), what putting a symbol and raw bits makes of it, its packet. No condition; no program.
  Where a writer of the program lies: five numbers and 1275 bytes in one block, none of them frozen; and what stores and other calls make of it. No condition; no program.
  What Left, Rng and push of package writer do to a writer that lies somewhere. Nothing else is turned.
  What widen, Put, pushBit and Raw of package writer do to a writer that lies somewhere. Nothing else is turned.
  What pushBit and Raw of package writer do to a writer that lies somewhere. Nothing else is turned.
  What New and Done of package writer make: a writer of its own; the packet in memory of its own. Nothing that was there is turned.
  What Done of package writer makes: the packet in memory of its own, or ErrFull. Nothing that was there is turned.
  What the calls of package writer do, said of the writer (Left, Rng, Put and Raw whatever is handed in), lists of calls in memory, and the document's example. Nothing that was there has turned but the writer's own block.
-/
import Derived.WalkKit
import Derived.Below
import Derived.Laws.OwnMore
import Derived.Test.YtfgpmdikkncckaaGreatDoorRows
import Derived.ProofKit
import Derived.OpenShut
import Derived.WalkSpells
import Derived.Handy
import Derived.WalkLawsBesides
import Derived.Deep.QuietTactic
import Derived.BigQuiet
import Derived.WalkSmall
import Derived.BigRegion
import Derived.Laws.ShiftsVarLaws
import Derived.Lib.QuietBelow
import Derived.Laws.CopyOwn
import Derived.OwnWalk
import Derived.Deep.RegionHeld3
import Derived.Laws.Rows
import Derived.Laws.BytesArg
namespace Go.Proofs.YtfgpmdikkncckaaGreatDoor
set_option linter.unusedVariables false
open Go.RowKit

def setF (f : Nat → Int) (k : Nat) (v : Int) : Nat → Int := fun i => if i = k then v else f i
theorem setF_same (f : Nat → Int) (k : Nat) (v : Int) : setF f k v k = v := if_pos rfl
theorem setF_other (f : Nat → Int) {k i : Nat} (v : Int) (h : i ≠ k) : setF f k v i = f i := if_neg h
theorem setF_self (f : Nat → Int) (k : Nat) : setF f k (f k) = f := by
  funext i; unfold setF; split
  · rename_i h; rw [h]
  · rfl

/-- The number of the first so many digits is more by n. -/
def addF : Nat → Int → (Nat → Int) → (Nat → Int)
  | 0, _, f => f
  | k + 1, n, f => addF k ((n + f k) / 256) (setF f k ((n + f k) % 256))
/-- .. by one, the machine's way. -/
def carryF : Nat → (Nat → Int) → (Nat → Int)
  | 0, f => f
  | k + 1, f => if (f k + 1) % 256 = 0 then carryF k (setF f k 0) else setF f k ((f k + 1) % 256)

def Byte (f : Nat → Int) : Prop := ∀ i, 0 ≤ f i ∧ f i ≤ 255
theorem Byte.set {f : Nat → Int} (h : Byte f) (k : Nat) {v : Int} (h0 : 0 ≤ v) (h1 : v ≤ 255) : Byte (setF f k v) := by
  intro i; unfold setF; split
  · exact ⟨h0, h1⟩
  · exact h i

theorem addF_zero : ∀ (k : Nat) (f : Nat → Int), Byte f → addF k 0 f = f
  | 0, f, _ => rfl
  | k + 1, f, h => by
    have hk := h k
    rw [addF, show (0 + f k) / 256 = 0 by omega, show (0 + f k) % 256 = f k by omega, setF_self]
    exact addF_zero k f h
theorem addF_one : ∀ (k : Nat) (f : Nat → Int), Byte f → addF k 1 f = carryF k f
  | 0, f, _ => rfl
  | k + 1, f, h => by
    have hk := h k
    rw [addF, carryF]
    by_cases hz : (f k + 1) % 256 = 0
    · rw [if_pos hz, show (1 + f k) / 256 = 1 by omega, show (1 + f k) % 256 = 0 by omega]
      exact addF_one k _ (h.set k (by omega) (by omega))
    · rw [if_neg hz, show (1 + f k) / 256 = 0 by omega, show (1 + f k) % 256 = (f k + 1) % 256 by omega]
      exact addF_zero k _ (h.set k (by omega) (by omega))
theorem addF_byte : ∀ (k : Nat) (n : Int) (f : Nat → Int), Byte f → Byte (addF k n f)
  | 0, _, _, h => h
  | k + 1, n, f, h => addF_byte k _ _ (h.set k (by omega) (by omega))
theorem addF_above : ∀ (k : Nat) (n : Int) (f : Nat → Int) (i : Nat), k ≤ i → addF k n f i = f i
  | 0, _, _, _, _ => rfl
  | k + 1, n, f, i, h => by rw [addF, addF_above k _ _ i (by omega), setF_other _ _ (by omega)]
theorem addF_congr : ∀ (k : Nat) (n : Int) (f g : Nat → Int), (∀ i, i < k → f i = g i) → ∀ i, i < k → addF k n f i = addF k n g i
  | 0, _, _, _, _ => fun i hi => by omega
  | k + 1, n, f, g, h => fun i hi => by
    rw [addF, addF, h k (by omega)]
    by_cases e : i < k
    · refine addF_congr k _ _ _ (fun j hj => ?_) i e
      rw [setF_other _ _ (by omega), setF_other _ _ (by omega), h j (by omega)]
    · have : i = k := by omega
      subst this
      rw [addF_above _ _ _ _ (Nat.le_refl _), addF_above _ _ _ _ (Nat.le_refl _), setF_same, setF_same]
theorem carryF_byte (k : Nat) (f : Nat → Int) (h : Byte f) : Byte (carryF k f) := by rw [← addF_one k f h]; exact addF_byte k 1 f h
theorem carryF_above (k : Nat) (f : Nat → Int) (h : Byte f) (i : Nat) (hi : k ≤ i) : carryF k f i = f i := by rw [← addF_one k f h]; exact addF_above k 1 f i hi

/-- A writer: its range, its digits (the last three are its low), its raw bits. -/
structure Mo where
  rng : Int
  D : Nat → Int
  nD : Nat
  R : Nat → Int
  nR : Nat

structure Mo.Ok (m : Mo) : Prop where
  n3 : 3 ≤ m.nD
  d : Byte m.D
  dz : ∀ i, m.nD ≤ i → m.D i = 0
  b : ∀ i, 0 ≤ m.R i ∧ m.R i ≤ 1
  bz : ∀ i, m.nR ≤ i → m.R i = 0
/-- .. and its range between two symbols. -/
structure Mo.Good (m : Mo) : Prop where
  ok : m.Ok
  r1 : 65536 < m.rng
  r2 : m.rng ≤ 16777216

def Mo.new : Mo := ⟨16777216, fun _ => 0, 3, fun _ => 0, 0⟩
/-- The range that a symbol has, ahead of bytes being put. -/
def Mo.part (m : Mo) (a b t : Int) : Int := if b = t then m.rng - a * (m.rng / t) else (b - a) * (m.rng / t)
/-- A symbol, ahead of bytes being put. -/
def Mo.sym (m : Mo) (a b t : Int) : Mo := { m with rng := m.part a b t, D := addF m.nD (a * (m.rng / t)) m.D }
/-- A byte is put. -/
def Mo.grow (m : Mo) : Mo := { m with rng := m.rng * 256, nD := m.nD + 1 }
def Mo.wide (m : Mo) : Mo := if m.rng ≤ 256 then m.grow.grow else if m.rng ≤ 65536 then m.grow else m
def Mo.put (m : Mo) (a b t : Int) : Mo := (m.sym a b t).wide
def Mo.bit (m : Mo) (v : Int) : Mo := { m with R := setF m.R m.nR v, nR := m.nR + 1 }
def Mo.raw : Nat → Int → Mo → Mo
  | 0, _, m => m
  | k + 1, x, m => Mo.raw k (x / 2) (m.bit (x % 2))
def Mo.left (m : Mo) (z : Nat) : Int := 8 * (z : Int) - 8 * (m.nD : Int) - (m.nR : Int)
/-- The raw bits of a byte. -/
def rawB (R : Nat → Int) (j : Nat) : Int := R (j * 8 + 0) + R (j * 8 + 1) * 2 + R (j * 8 + 2) * 4 + R (j * 8 + 3) * 8 + R (j * 8 + 4) * 16 + R (j * 8 + 5) * 32 + R (j * 8 + 6) * 64 + R (j * 8 + 7) * 128
/-- The packet's byte. -/
def Mo.pk (m : Mo) (z i : Nat) : Int := m.D i + rawB m.R (z - 1 - i)
/-- May a symbol be put? -/
def May (a b t : Int) : Prop := 0 ≤ a ∧ a < b ∧ b ≤ t ∧ t ≤ 4096

theorem zero_bd (n : Int) (h : 0 ≤ n) : (0 : Int) ≤ 0 ∧ (0 : Int) ≤ n := ⟨by decide, h⟩
theorem new_ok : Mo.new.Good := ⟨⟨by decide, fun i => zero_bd _ (by decide), fun i _ => rfl, fun i => zero_bd _ (by decide), fun i _ => rfl⟩, by decide, by decide⟩

theorem part_bd {m : Mo} {a b t : Int} (h1 : 65536 < m.rng) (h : May a b t) : 16 ≤ m.rng / t ∧ m.rng / t ≤ m.rng ∧ 0 ≤ a * (m.rng / t) ∧ a * (m.rng / t) ≤ m.rng ∧ (b - a) * (m.rng / t) ≤ m.rng ∧ 16 ≤ m.part a b t ∧ m.part a b t ≤ m.rng := by
  obtain ⟨a0, ab, bt, t1⟩ := h
  have ht : 0 < t := by omega
  have hr : 16 ≤ m.rng / t := by
    rw [Int.le_ediv_iff_mul_le ht]; omega
  have hrr : m.rng / t * t ≤ m.rng := Int.ediv_mul_le _ (by omega)
  unfold Mo.part
  generalize m.rng / t = r at *
  have k1 : 0 ≤ a * r := Int.mul_nonneg a0 (by omega)
  have k2 : r ≤ (t - a) * r := by
    have : 1 * r ≤ (t - a) * r := Int.mul_le_mul_of_nonneg_right (by omega) (by omega)
    omega
  have k3 : (t - a) * r = t * r - a * r := Int.sub_mul _ _ _
  have k4 : t * r = r * t := Int.mul_comm _ _
  have k5 : r ≤ (b - a) * r := by
    have : 1 * r ≤ (b - a) * r := Int.mul_le_mul_of_nonneg_right (by omega) (by omega)
    omega
  have k6 : (b - a) * r ≤ (t - a) * r := Int.mul_le_mul_of_nonneg_right (by omega) (by omega)
  refine ⟨hr, by omega, k1, by omega, by omega, ?_, ?_⟩
  · split <;> omega
  · split <;> omega

theorem grow_ok {m : Mo} (h : m.Ok) : m.grow.Ok := ⟨Nat.le_succ_of_le h.n3, h.d, fun i hi => h.dz i (Nat.le_of_succ_le hi), h.b, h.bz⟩
theorem sym_ok {m : Mo} (h : m.Ok) (a b t : Int) : (m.sym a b t).Ok := ⟨h.n3, addF_byte _ _ _ h.d, fun i hi => (addF_above m.nD _ _ i hi).trans (h.dz i hi), h.b, h.bz⟩
theorem put_ok {m : Mo} {a b t : Int} (h : m.Good) (hm : May a b t) : (m.put a b t).Good := by
  have hp := part_bd h.r1 hm
  have hs := sym_ok h.ok a b t
  have hr := h.r2
  have e : (m.sym a b t).rng = m.part a b t := rfl
  unfold Mo.put Mo.wide
  rw [e]
  generalize m.part a b t = g at *
  split
  · exact ⟨grow_ok (grow_ok hs), by show 65536 < (m.sym a b t).rng * 256 * 256; omega, by show (m.sym a b t).rng * 256 * 256 ≤ _; omega⟩
  · split
    · exact ⟨grow_ok hs, by show 65536 < (m.sym a b t).rng * 256; omega, by show (m.sym a b t).rng * 256 ≤ _; omega⟩
    · exact ⟨hs, by omega, by omega⟩
theorem put_nR (m : Mo) (a b t : Int) : (m.put a b t).nR = m.nR ∧ (m.put a b t).R = m.R := by
  unfold Mo.put Mo.wide; split
  · exact ⟨rfl, rfl⟩
  · split <;> exact ⟨rfl, rfl⟩
theorem put_nD (m : Mo) (a b t : Int) : m.nD ≤ (m.put a b t).nD ∧ (m.put a b t).nD ≤ m.nD + 2 := by
  unfold Mo.put Mo.wide; split
  · exact ⟨Nat.le_add_right m.nD 2, Nat.le_refl _⟩
  · split
    · exact ⟨Nat.le_add_right m.nD 1, Nat.le_add_right (m.nD + 1) 1⟩
    · exact ⟨Nat.le_refl _, Nat.le_add_right m.nD 2⟩
theorem bit_ok {m : Mo} (h : m.Ok) {v : Int} (h0 : 0 ≤ v) (h1 : v ≤ 1) : (m.bit v).Ok := by
  refine ⟨h.n3, h.d, h.dz, fun i => ?_, fun i hi => ?_⟩
  · show 0 ≤ setF _ _ _ i ∧ setF _ _ _ i ≤ 1
    unfold setF; split
    · exact ⟨h0, h1⟩
    · exact h.b i
  · show setF _ _ _ i = 0
    have hi' : m.nR + 1 ≤ i := hi
    rw [setF_other _ _ (by omega)]
    exact h.bz i (by omega)
theorem raw_ok : ∀ (k : Nat) (x : Int) (m : Mo), m.Ok → (Mo.raw k x m).Ok
  | 0, _, _, h => h
  | k + 1, x, m, h => raw_ok k _ _ (bit_ok h (by omega) (by omega))
theorem raw_nR : ∀ (k : Nat) (x : Int) (m : Mo), (Mo.raw k x m).nR = m.nR + k ∧ (Mo.raw k x m).nD = m.nD ∧ (Mo.raw k x m).rng = m.rng ∧ (Mo.raw k x m).D = m.D
  | 0, _, _ => ⟨rfl, rfl, rfl, rfl⟩
  | k + 1, x, m => by
    obtain ⟨h1, h2, h3, h4⟩ := raw_nR k (x / 2) (m.bit (x % 2))
    rw [Mo.raw]
    exact ⟨by rw [h1]; show m.nR + 1 + k = _; omega, h2, h3, h4⟩
theorem raw_good {m : Mo} (h : m.Good) (k : Nat) (x : Int) : (Mo.raw k x m).Good := by
  obtain ⟨_, _, h3, _⟩ := raw_nR k x m
  exact ⟨raw_ok k x m h.ok, by rw [h3]; exact h.r1, by rw [h3]; exact h.r2⟩
theorem raw_succ : ∀ (k : Nat) (x : Int) (m : Mo), Mo.raw (k + 1) x m = (Mo.raw k x m).bit (x / 2 ^ k % 2)
  | 0, x, m => by rw [Mo.raw, Mo.raw, Mo.raw]; simp
  | k + 1, x, m => by
    rw [Mo.raw, raw_succ k (x / 2) (m.bit (x % 2))]
    rw [show Mo.raw (k + 1) x m = Mo.raw k (x / 2) (m.bit (x % 2)) from rfl]
    congr 1
    rw [Int.pow_succ, Int.mul_comm, Int.ediv_ediv_of_nonneg (by decide)]
theorem left_put (m : Mo) (z : Nat) (a b t : Int) : (m.put a b t).left z ≤ m.left z := by
  have h1 := put_nD m a b t
  have h2 := (put_nR m a b t).1
  unfold Mo.left; omega

theorem rawB_bd {m : Mo} (h : m.Ok) (j : Nat) : 0 ≤ rawB m.R j ∧ rawB m.R j ≤ 255 := by
  unfold rawB
  have h0 := h.b (j * 8 + 0)
  have h1 := h.b (j * 8 + 1)
  have h2 := h.b (j * 8 + 2)
  have h3 := h.b (j * 8 + 3)
  have h4 := h.b (j * 8 + 4)
  have h5 := h.b (j * 8 + 5)
  have h6 := h.b (j * 8 + 6)
  have h7 := h.b (j * 8 + 7)
  omega
theorem rawB_zero {m : Mo} (h : m.Ok) (j : Nat) (hj : m.nR ≤ j * 8) : rawB m.R j = 0 := by
  unfold rawB
  rw [h.bz _ (by omega), h.bz _ (by omega), h.bz _ (by omega), h.bz _ (by omega), h.bz _ (by omega), h.bz _ (by omega), h.bz _ (by omega), h.bz _ (by omega)]
  decide

/-- A raw bit more: the byte that it belongs to is more by it, the others are as they were. -/
theorem rawB_bit {m : Mo} (h : m.Ok) (v : Int) : rawB (m.bit v).R (m.nR / 8) = rawB m.R (m.nR / 8) + v * 2 ^ (m.nR % 8) ∧ rawB m.R (m.nR / 8) < 2 ^ (m.nR % 8) := by
  have hz := h.bz
  have hb := h.b
  show rawB (setF m.R m.nR v) (m.nR / 8) = _ ∧ _
  generalize m.R = R at *
  generalize hn : m.nR = n at *
  have e := Nat.div_add_mod n 8
  have l := Nat.mod_lt n (show 0 < 8 by decide)
  generalize n / 8 = q at *
  generalize n % 8 = r at *
  subst e
  clear hn
  unfold rawB
  have z : ∀ i, r ≤ i → R (q * 8 + i) = 0 := fun i hi => hz _ (by omega)
  have s : ∀ i, i ≠ r → setF R (8 * q + r) v (q * 8 + i) = R (q * 8 + i) := fun i hi => setF_other _ _ (by omega)
  have t : setF R (8 * q + r) v (q * 8 + r) = v := by rw [show q * 8 + r = 8 * q + r by omega]; exact setF_same _ _ _
  have b0 := hb (q * 8 + 0)
  have b1 := hb (q * 8 + 1)
  have b2 := hb (q * 8 + 2)
  have b3 := hb (q * 8 + 3)
  have b4 := hb (q * 8 + 4)
  have b5 := hb (q * 8 + 5)
  have b6 := hb (q * 8 + 6)
  match r, l with
  | 0, _ => rw [t, s 1 (by decide), s 2 (by decide), s 3 (by decide), s 4 (by decide), s 5 (by decide), s 6 (by decide), s 7 (by decide), z 0 (by decide), z 1 (by decide), z 2 (by decide), z 3 (by decide), z 4 (by decide), z 5 (by decide), z 6 (by decide), z 7 (by decide)]; constructor <;> omega
  | 1, _ => rw [s 0 (by decide), t, s 2 (by decide), s 3 (by decide), s 4 (by decide), s 5 (by decide), s 6 (by decide), s 7 (by decide), z 1 (by decide), z 2 (by decide), z 3 (by decide), z 4 (by decide), z 5 (by decide), z 6 (by decide), z 7 (by decide)]; constructor <;> omega
  | 2, _ => rw [s 0 (by decide), s 1 (by decide), t, s 3 (by decide), s 4 (by decide), s 5 (by decide), s 6 (by decide), s 7 (by decide), z 2 (by decide), z 3 (by decide), z 4 (by decide), z 5 (by decide), z 6 (by decide), z 7 (by decide)]; constructor <;> omega
  | 3, _ => rw [s 0 (by decide), s 1 (by decide), s 2 (by decide), t, s 4 (by decide), s 5 (by decide), s 6 (by decide), s 7 (by decide), z 3 (by decide), z 4 (by decide), z 5 (by decide), z 6 (by decide), z 7 (by decide)]; constructor <;> omega
  | 4, _ => rw [s 0 (by decide), s 1 (by decide), s 2 (by decide), s 3 (by decide), t, s 5 (by decide), s 6 (by decide), s 7 (by decide), z 4 (by decide), z 5 (by decide), z 6 (by decide), z 7 (by decide)]; constructor <;> omega
  | 5, _ => rw [s 0 (by decide), s 1 (by decide), s 2 (by decide), s 3 (by decide), s 4 (by decide), t, s 6 (by decide), s 7 (by decide), z 5 (by decide), z 6 (by decide), z 7 (by decide)]; constructor <;> omega
  | 6, _ => rw [s 0 (by decide), s 1 (by decide), s 2 (by decide), s 3 (by decide), s 4 (by decide), s 5 (by decide), t, s 7 (by decide), z 6 (by decide), z 7 (by decide)]; constructor <;> omega
  | 7, _ => rw [s 0 (by decide), s 1 (by decide), s 2 (by decide), s 3 (by decide), s 4 (by decide), s 5 (by decide), s 6 (by decide), t, z 7 (by decide)]; constructor <;> omega
theorem rawB_bit_other {m : Mo} (v : Int) {j : Nat} (hj : j ≠ m.nR / 8) : rawB (m.bit v).R j = rawB m.R j := by
  show rawB (setF m.R m.nR v) j = _
  unfold rawB
  rw [setF_other _ _ (by omega), setF_other _ _ (by omega), setF_other _ _ (by omega), setF_other _ _ (by omega), setF_other _ _ (by omega), setF_other _ _ (by omega), setF_other _ _ (by omega), setF_other _ _ (by omega)]

/-- How the machine holds a writer of a size: low is its last three digits; as long as at least nothing is left the bytes lie in front, the raw bits behind. -/
structure Inv (z : Nat) (m : Mo) (low : Int) (f : Nat → Int) : Prop where
  ok : m.Ok
  low : low = m.D (m.nD - 3) * 65536 + m.D (m.nD - 2) * 256 + m.D (m.nD - 1)
  byte : Byte f
  front : 0 ≤ m.left z → ∀ i, i < m.nD - 3 → f i = m.D i
  back : 0 ≤ m.left z → ∀ i, m.nD - 3 ≤ i → i < z → f i = rawB m.R (z - 1 - i)
theorem Inv.low_bd {z : Nat} {m : Mo} {low : Int} {f : Nat → Int} (h : Inv z m low f) : 0 ≤ low ∧ low < 16777216 := by
  have h1 := h.ok.d (m.nD - 3)
  have h2 := h.ok.d (m.nD - 2)
  have h3 := h.ok.d (m.nD - 1)
  have := h.low
  omega
theorem inv_new (z : Nat) : Inv z Mo.new 0 (fun _ => 0) := by
  refine ⟨new_ok.ok, rfl, fun i => ⟨by decide, by decide⟩, fun _ i _ => rfl, fun _ i _ _ => ?_⟩
  rw [rawB_zero new_ok.ok _ (Nat.zero_le _)]

/-- The machine's way of putting a symbol, ahead of bytes being put. -/
theorem inv_sym {z : Nat} {m : Mo} {low : Int} {f : Nat → Int} {a b t : Int} (h : Inv z m low f) (hg : m.Good) (hm : May a b t) :
    (low + a * (m.rng / t) < 16777216 → Inv z (m.sym a b t) (low + a * (m.rng / t)) f) ∧
    (16777216 ≤ low + a * (m.rng / t) → Inv z (m.sym a b t) (low + a * (m.rng / t) - 16777216) (if 0 ≤ m.left z then carryF (m.nD - 3) f else f)) := by
  have hp := part_bd hg.r1 hm
  have hr := hg.r2
  have hn := h.ok.n3
  have hl := h.low_bd
  have hlow := h.low
  obtain ⟨n, hn⟩ : ∃ n, m.nD = n + 3 := ⟨m.nD - 3, by omega⟩
  have e1 : (m.sym a b t).D = addF (n + 3) (a * (m.rng / t)) m.D := by show addF m.nD _ _ = _; rw [hn]
  have e2 : (m.sym a b t).nD = n + 3 := hn
  have d0 := h.ok.d n
  have d1 := h.ok.d (n + 1)
  have d2 := h.ok.d (n + 2)
  rw [hn, show n + 3 - 3 = n by omega, show n + 3 - 2 = n + 1 by omega, show n + 3 - 1 = n + 2 by omega] at hlow
  have hsl : (m.sym a b t).left z = m.left z := rfl
  have hfr := h.front
  have hbk := h.back
  rw [hn, show n + 3 - 3 = n by omega] at hfr hbk
  rw [hn, show n + 3 - 3 = n by omega]
  generalize hu : a * (m.rng / t) = u at *
  -- the three last digits, and what goes on
  have step : addF (n + 3) u m.D = addF n ((low + u) / 16777216) (setF (setF (setF m.D (n + 2) ((low + u) % 256)) (n + 1) ((low + u) / 256 % 256)) n ((low + u) / 65536 % 256)) := by
    rw [addF, addF, addF]
    rw [setF_other _ _ (show n + 1 ≠ n + 2 by omega), setF_other _ _ (show n ≠ n + 1 by omega), setF_other _ _ (show n ≠ n + 2 by omega)]
    have q0 : (u + m.D (n + 2)) % 256 = (low + u) % 256 := by omega
    have q1 : ((u + m.D (n + 2)) / 256 + m.D (n + 1)) % 256 = (low + u) / 256 % 256 := by omega
    have q2 : (((u + m.D (n + 2)) / 256 + m.D (n + 1)) / 256 + m.D n) % 256 = (low + u) / 65536 % 256 := by omega
    have q3 : (((u + m.D (n + 2)) / 256 + m.D (n + 1)) / 256 + m.D n) / 256 = (low + u) / 16777216 := by omega
    rw [q0, q1, q2, q3]
  have hD3 : Byte (setF (setF (setF m.D (n + 2) ((low + u) % 256)) (n + 1) ((low + u) / 256 % 256)) n ((low + u) / 65536 % 256)) :=
    ((h.ok.d.set _ (by omega) (by omega)).set _ (by omega) (by omega)).set _ (by omega) (by omega)
  have hlast : ∀ c, addF n c (setF (setF (setF m.D (n + 2) ((low + u) % 256)) (n + 1) ((low + u) / 256 % 256)) n ((low + u) / 65536 % 256)) n * 65536 + addF n c (setF (setF (setF m.D (n + 2) ((low + u) % 256)) (n + 1) ((low + u) / 256 % 256)) n ((low + u) / 65536 % 256)) (n + 1) * 256 + addF n c (setF (setF (setF m.D (n + 2) ((low + u) % 256)) (n + 1) ((low + u) / 256 % 256)) n ((low + u) / 65536 % 256)) (n + 2) = (low + u) % 16777216 := by
    intro c
    rw [addF_above _ _ _ _ (Nat.le_refl _), addF_above _ _ _ _ (show n ≤ n + 1 by omega), addF_above _ _ _ _ (show n ≤ n + 2 by omega), setF_same, setF_other _ _ (show n + 1 ≠ n by omega), setF_same, setF_other _ _ (show n + 2 ≠ n by omega), setF_other _ _ (show n + 2 ≠ n + 1 by omega), setF_same]
    omega
  have hlo : ∀ i, i < n → (setF (setF (setF m.D (n + 2) ((low + u) % 256)) (n + 1) ((low + u) / 256 % 256)) n ((low + u) / 65536 % 256)) i = m.D i := fun i hi => by
    rw [setF_other _ _ (by omega), setF_other _ _ (by omega), setF_other _ _ (by omega)]
  refine ⟨fun hlt => ⟨sym_ok h.ok a b t, ?_, h.byte, fun hz i hi => ?_, fun hz i h1 h2 => ?_⟩, fun hge => ⟨sym_ok h.ok a b t, ?_, ?_, fun hz i hi => ?_, fun hz i h1 h2 => ?_⟩⟩
  · rw [e1, e2, show n + 3 - 3 = n by omega, show n + 3 - 2 = n + 1 by omega, show n + 3 - 1 = n + 2 by omega, step, hlast]; omega
  · rw [e2] at hi
    rw [hfr (by rw [← hsl]; exact hz) i (by omega), e1, step, show (low + u) / 16777216 = 0 by omega, addF_zero _ _ hD3, hlo i (by omega)]
  · rw [e2] at h1
    exact hbk (by rw [← hsl]; exact hz) i (by omega) h2
  · rw [e1, e2, show n + 3 - 3 = n by omega, show n + 3 - 2 = n + 1 by omega, show n + 3 - 1 = n + 2 by omega, step, hlast]; omega
  · split
    · exact carryF_byte _ _ h.byte
    · exact h.byte
  · rw [e2] at hi
    rw [hsl] at hz
    rw [if_pos hz, e1, step, show (low + u) / 16777216 = 1 by omega, ← addF_one _ _ h.byte]
    exact addF_congr n 1 _ _ (fun j hj => by rw [hlo j hj]; exact hfr hz j hj) i (by omega)
  · rw [e2] at h1
    rw [hsl] at hz
    rw [if_pos hz, carryF_above _ _ h.byte _ (by omega)]
    exact hbk hz i (by omega) h2

/-- The machine's way of putting a byte. -/
theorem inv_grow {z : Nat} {m : Mo} {low : Int} {f : Nat → Int} (h : Inv z m low f) :
    Inv z m.grow (low % 65536 * 256) (if 0 ≤ m.grow.left z then setF f (m.nD - 3) (low / 65536) else f) := by
  have hn := h.ok.n3
  have hl := h.low_bd
  have hlow := h.low
  obtain ⟨n, hn⟩ : ∃ n, m.nD = n + 3 := ⟨m.nD - 3, by omega⟩
  have hfr := h.front
  have hbk := h.back
  have e2 : m.grow.nD = n + 4 := by show m.nD + 1 = _; omega
  have e1 : m.grow.D = m.D := rfl
  have e3 : m.grow.R = m.R := rfl
  have el : m.grow.left z ≤ m.left z := by unfold Mo.left; show 8 * (z : Int) - 8 * ((m.nD + 1 : Nat) : Int) - (m.nR : Int) ≤ _; omega
  rw [hn, show n + 3 - 3 = n by omega] at hfr hbk
  rw [hn, show n + 3 - 3 = n by omega]
  rw [hn, show n + 3 - 3 = n by omega, show n + 3 - 2 = n + 1 by omega, show n + 3 - 1 = n + 2 by omega] at hlow
  have d0 := h.ok.d n
  have d1 := h.ok.d (n + 1)
  have d2 := h.ok.d (n + 2)
  have dz := h.ok.dz (n + 3) (by omega)
  refine ⟨grow_ok h.ok, ?_, ?_, fun hz i hi => ?_, fun hz i h1 h2 => ?_⟩
  · rw [e1, e2, show n + 4 - 3 = n + 1 by omega, show n + 4 - 2 = n + 2 by omega, show n + 4 - 1 = n + 3 by omega, dz]; omega
  · split
    · exact h.byte.set _ (by omega) (by omega)
    · exact h.byte
  · rw [if_pos hz]
    rw [e2] at hi
    by_cases e : i = n
    · subst e; rw [setF_same, e1]; omega
    · rw [setF_other _ _ e, hfr (by omega) i (by omega), e1]
  · rw [if_pos hz]
    rw [e2] at h1
    rw [setF_other _ _ (by omega), hbk (by omega) i (by omega) h2, e3]

/-- .. a raw bit. -/
theorem inv_bit {z : Nat} {m : Mo} {low v : Int} {f : Nat → Int} (h : Inv z m low f) (h0 : 0 ≤ v) (h1 : v ≤ 1) :
    Inv z (m.bit v) low (if 0 ≤ (m.bit v).left z then setF f (z - 1 - m.nR / 8) (f (z - 1 - m.nR / 8) + v * 2 ^ (m.nR % 8)) else f) ∧ (0 ≤ (m.bit v).left z → m.nR / 8 + m.nD < z ∧ f (z - 1 - m.nR / 8) < 2 ^ (m.nR % 8)) := by
  have hn := h.ok.n3
  have el : (m.bit v).left z = m.left z - 1 := by unfold Mo.left; show 8 * (z : Int) - 8 * (m.nD : Int) - ((m.nR + 1 : Nat) : Int) = _; omega
  have e2 : (m.bit v).nD = m.nD := rfl
  have e1 : (m.bit v).D = m.D := rfl
  have hbit := rawB_bit h.ok v
  have hrn : 0 ≤ (m.bit v).left z → m.nR / 8 + m.nD < z := by
    intro hz; unfold Mo.left at hz; rw [e2] at hz
    have : (m.bit v).nR = m.nR + 1 := rfl
    omega
  have hval : 0 ≤ (m.bit v).left z → f (z - 1 - m.nR / 8) = rawB m.R (m.nR / 8) := by
    intro hz
    have hlt := hrn hz
    rw [h.back (by omega) (z - 1 - m.nR / 8) (by omega) (by omega), show z - 1 - (z - 1 - m.nR / 8) = m.nR / 8 by omega]
  have hpos : (0 : Int) < 2 ^ (m.nR % 8) := Int.pow_pos (by decide)
  have hb := rawB_bd (bit_ok h.ok h0 h1) (m.nR / 8)
  refine ⟨⟨bit_ok h.ok h0 h1, h.low, ?_, fun hz i hi => ?_, fun hz i h2 h3 => ?_⟩, fun hz => ⟨hrn hz, by rw [hval hz]; exact hbit.2⟩⟩
  · split
    · rename_i hz
      rw [hval hz, ← hbit.1]
      exact h.byte.set _ hb.1 hb.2
    · exact h.byte
  · rw [if_pos hz]
    rw [e2] at hi
    have hlt := hrn hz
    rw [setF_other _ _ (by omega), h.front (by omega) i hi, e1]
  · rw [if_pos hz]
    rw [e2] at h2
    have hlt := hrn hz
    by_cases e : i = z - 1 - m.nR / 8
    · subst e
      rw [setF_same, hval hz, show z - 1 - (z - 1 - m.nR / 8) = m.nR / 8 by omega, hbit.1]
    · rw [setF_other _ _ e, h.back (by omega) i h2 h3, rawB_bit_other]
      omega

/-- What the machine's bytes are, as a packet. -/
theorem inv_pk {z : Nat} {m : Mo} {low : Int} {f : Nat → Int} (h : Inv z m low f) (hz : 0 ≤ m.left z) :
    m.nD ≤ z ∧ ∀ i, i < z → m.pk z i = if i < m.nD - 3 then f i else if i = m.nD - 3 then low / 65536 else if i = m.nD - 2 then low / 256 % 256 else if i = m.nD - 1 then low % 256 else f i := by
  have hn := h.ok.n3
  have hlow := h.low
  have d0 := h.ok.d (m.nD - 3)
  have d1 := h.ok.d (m.nD - 2)
  have d2 := h.ok.d (m.nD - 1)
  have hzz := hz
  unfold Mo.left at hzz
  refine ⟨by omega, fun i hi => ?_⟩
  unfold Mo.pk
  have hr : i < m.nD → rawB m.R (z - 1 - i) = 0 := fun hi => rawB_zero h.ok _ (by omega)
  split
  · rename_i hlt
    rw [hr (by omega), h.front hz i hlt]; omega
  · split
    · rename_i e; subst e; rw [hr (by omega)]; omega
    · split
      · rename_i e; subst e; rw [hr (by omega)]; omega
      · split
        · rename_i e; subst e; rw [hr (by omega)]; omega
        · rw [h.ok.dz i (by omega), h.back hz i (by omega) hi]; omega
theorem pk_bd {m : Mo} (h : m.Ok) {z i : Nat} (hz : 0 ≤ m.left z) (hi : i < z) : 0 ≤ m.pk z i ∧ m.pk z i ≤ 255 := by
  unfold Mo.pk
  have hb := rawB_bd h (z - 1 - i)
  have hd := h.d i
  unfold Mo.left at hz
  by_cases e : i < m.nD
  · rw [rawB_zero h _ (by omega)]; omega
  · rw [h.dz i (by omega)]; omega
end Go.Proofs.YtfgpmdikkncckaaGreatDoor
namespace Go.Proofs.YtfgpmdikkncckaaGreatDoor
set_option linter.unusedVariables false
open Go.RowKit

structure WCells (w : World) (b : Nat) (z : Nat) (r l : Int) (n k : Nat) (f : Nat → Int) : Prop where
  c0 : w.cell? ⟨b, 0, none⟩ = some (.int .i64 z)
  c1 : w.cell? ⟨b, 1, none⟩ = some (.int .u32 r)
  c2 : w.cell? ⟨b, 2, none⟩ = some (.int .u32 l)
  c3 : w.cell? ⟨b, 3, none⟩ = some (.int .i64 n)
  c4 : w.cell? ⟨b, 4, none⟩ = some (.int .i64 k)
  ck : ∀ i, i < 1275 → w.cell? ⟨b, 5 + i, none⟩ = some (.int .u8 (f i))
  fz : ∀ o, w.frozen? ⟨b, o, none⟩ = false

section
variable {w w' : World} {b z n k : Nat} {r l : Int} {f : Nat → Int}

theorem WCells.lt (h : WCells w b z r l n k f) : b < w.heap.size := block_lt_of_cell h.c0
theorem cell_off {o o' : Nat} {v u : Value} (h : w.cell? ⟨b, o', none⟩ = some u) (hne : o' ≠ o) : (w.setCell ⟨b, o, none⟩ v).cell? ⟨b, o', none⟩ = some u :=
  (World.cell?_setCell_other _ _ _ _ (by intro e; cases e; exact hne rfl)).trans h
theorem WCells.set1 (h : WCells w b z r l n k f) (x : Int) : WCells (w.setCell ⟨b, 1, none⟩ (.int .u32 x)) b z x l n k f :=
  ⟨cell_off h.c0 (by decide), World.cell?_setCell_same _ _ _ h.c1, cell_off h.c2 (by decide), cell_off h.c3 (by decide), cell_off h.c4 (by decide), fun i hi => cell_off (h.ck i hi) (by omega), fun o => (World.frozen?_setCell _ _ _ _).trans (h.fz o)⟩
theorem WCells.set2 (h : WCells w b z r l n k f) (x : Int) : WCells (w.setCell ⟨b, 2, none⟩ (.int .u32 x)) b z r x n k f :=
  ⟨cell_off h.c0 (by decide), cell_off h.c1 (by decide), World.cell?_setCell_same _ _ _ h.c2, cell_off h.c3 (by decide), cell_off h.c4 (by decide), fun i hi => cell_off (h.ck i hi) (by omega), fun o => (World.frozen?_setCell _ _ _ _).trans (h.fz o)⟩
theorem WCells.set3 (h : WCells w b z r l n k f) (x : Nat) : WCells (w.setCell ⟨b, 3, none⟩ (.int .i64 x)) b z r l x k f :=
  ⟨cell_off h.c0 (by decide), cell_off h.c1 (by decide), cell_off h.c2 (by decide), World.cell?_setCell_same _ _ _ h.c3, cell_off h.c4 (by decide), fun i hi => cell_off (h.ck i hi) (by omega), fun o => (World.frozen?_setCell _ _ _ _).trans (h.fz o)⟩
theorem WCells.set4 (h : WCells w b z r l n k f) (x : Nat) : WCells (w.setCell ⟨b, 4, none⟩ (.int .i64 x)) b z r l n x f :=
  ⟨cell_off h.c0 (by decide), cell_off h.c1 (by decide), cell_off h.c2 (by decide), cell_off h.c3 (by decide), World.cell?_setCell_same _ _ _ h.c4, fun i hi => cell_off (h.ck i hi) (by omega), fun o => (World.frozen?_setCell _ _ _ _).trans (h.fz o)⟩
theorem WCells.setk (h : WCells w b z r l n k f) (j : Nat) (x : Int) : WCells (w.setCell ⟨b, 5 + j, none⟩ (.int .u8 x)) b z r l n k (setF f j x) := by
  refine ⟨cell_off h.c0 (by omega), cell_off h.c1 (by omega), cell_off h.c2 (by omega), cell_off h.c3 (by omega), cell_off h.c4 (by omega), fun i hi => ?_, fun o => (World.frozen?_setCell _ _ _ _).trans (h.fz o)⟩
  by_cases e : i = j
  · subst e; rw [setF_same]; exact World.cell?_setCell_same _ _ _ (h.ck i hi)
  · rw [setF_other _ _ e]; exact cell_off (h.ck i hi) (by omega)
theorem WCells.kept {row : Option Nat} (h : WCells w b z r l n k f) (hg : w.grownBy w' row) (hne : some b ≠ row) : WCells w' b z r l n k f := by
  have hb : w'.heap[b]? = w.heap[b]? := hg.block b h.lt hne
  have hc : ∀ o, w'.cell? ⟨b, o, none⟩ = w.cell? ⟨b, o, none⟩ := fun o => World.cell?_of_block (a := ⟨b, o, none⟩) hb
  exact ⟨(hc _).trans h.c0, (hc _).trans h.c1, (hc _).trans h.c2, (hc _).trans h.c3, (hc _).trans h.c4, fun i hi => (hc _).trans (h.ck i hi), fun o => (World.frozen?_of_block (a := ⟨b, o, none⟩) hb).trans (h.fz o)⟩
theorem WCells.drew (h : WCells w b z r l n k f) : WCells w.drew b z r l n k f := ⟨h.c0, h.c1, h.c2, h.c3, h.c4, h.ck, h.fz⟩
end

theorem grown_refl (w : World) (row : Option Nat) : w.grownBy w row := ⟨rfl, rfl, rfl, Nat.le_refl _, fun _ _ _ => rfl⟩
theorem grown_trans {a b c : World} {row : Option Nat} (h : a.grownBy b row) (k : b.grownBy c row) : a.grownBy c row :=
  ⟨k.os.trans h.os, k.tape.trans h.tape, k.output.trans h.output, Nat.le_trans h.size k.size, fun i hi hne => (k.block i (Nat.lt_of_lt_of_le hi h.size) hne).trans (h.block i hi hne)⟩
theorem wgrown_set {a w : World} {b o : Nat} (h : a.grownBy w (some b)) (v : Value) : a.grownBy (w.setCell ⟨b, o, none⟩ v) (some b) :=
  grown_trans h ⟨rfl, rfl, rfl, by simp [World.setCell], fun i hi hne => Below.heap_setCell _ _ _ _ (by intro e; apply hne; exact congrArg some e)⟩
theorem heap_set_row {w : World} {b o : Nat} {cs : Array Value} {t : TypeId} {u : Value} (h : w.heap[b]? = some (.cells cs t (0, 0))) : (w.setCell ⟨b, o, none⟩ u).heap[b]? = some (.cells (cs.setIfInBounds o u) t (0, 0)) := heap_setCell_same w b o cs t u h
theorem grown_setb (w : World) (b o : Nat) (u : Value) : w.grownBy (w.setCell ⟨b, o, none⟩ u) (some b) := wgrown_set (grown_refl _ _) u
theorem grown_drew {a w : World} {row : Option Nat} (h : a.grownBy w row) : a.grownBy w.drew row := ⟨h.os, h.tape, h.output, h.size, h.block⟩
theorem grown_alloc {a w : World} {row : Option Nat} (h : a.grownBy w row) (o : Obj) : a.grownBy (w.alloc o) row := grown_trans h (World.grownBy_alloc w o row)
theorem grown_none {a w : World} (h : a.grownBy w none) (row : Option Nat) : a.grownBy w row := ⟨h.os, h.tape, h.output, h.size, fun k hk _ => h.block k hk (by simp)⟩
theorem grown_below {w w' : World} (h : Below w.heap.size w w') (row : Option Nat) : w.grownBy w' row := ⟨h.os, h.tape, h.output, h.size, fun k hk _ => h.block k hk⟩

/-- A writer of size z lies at block b, and is m. -/
def WrAt (w : World) (b z : Nat) (m : Mo) : Prop := ∃ low f, Inv z m low f ∧ WCells w b z m.rng low (m.nD - 3) m.nR f
theorem WrAt.kept {w w' : World} {b z : Nat} {m : Mo} {row : Option Nat} (h : WrAt w b z m) (hg : w.grownBy w' row) (hne : some b ≠ row) : WrAt w' b z m := by
  obtain ⟨low, f, h1, h2⟩ := h
  exact ⟨low, f, h1, h2.kept hg hne⟩
theorem WrAt.lt {w : World} {b z : Nat} {m : Mo} (h : WrAt w b z m) : b < w.heap.size := by
  obtain ⟨low, f, h1, h2⟩ := h
  exact h2.lt
theorem WrAt.ok {w : World} {b z : Nat} {m : Mo} (h : WrAt w b z m) : m.Ok := by
  obtain ⟨low, f, h1, h2⟩ := h
  exact h1.ok
end Go.Proofs.YtfgpmdikkncckaaGreatDoor
namespace Go.Proofs.YtfgpmdikkncckaaGreatDoor
set_option linter.unusedVariables false
open Go.ChangeShapes Go.WideShapes Go.ChangeAt Go.RowKit

def leftF (z n k : Nat) : Int := 8 * ((z : Int) - 3 - n) - k
end Go.Proofs.YtfgpmdikkncckaaGreatDoor
namespace Go.Proofs.YtfgpmdikkncckaaGreatDoor
set_option linter.unusedVariables false
open Go.ChangeShapes Go.WideShapes Go.ChangeAt Go.RowKit

theorem wrap_u8 {x : Int} (h0 : 0 ≤ x) (h1 : x ≤ 255) : IntKind.u8.wrap x = x := by simp [IntKind.wrap, IntKind.bits, IntKind.signed]; omega
theorem wrap_u16 (x : Int) : IntKind.u16.wrap x = x % 65536 := by simp [IntKind.wrap, IntKind.bits, IntKind.signed]
theorem wrap_u32 {x : Int} (h0 : 0 ≤ x) (h1 : x < 4294967296) : IntKind.u32.wrap x = x := by simp [IntKind.wrap, IntKind.bits, IntKind.signed]; omega
end Go.Proofs.YtfgpmdikkncckaaGreatDoor
namespace Go.Proofs.YtfgpmdikkncckaaGreatDoor
set_option linter.unusedVariables false
open Go.ChangeShapes Go.WideShapes Go.ChangeAt Go.RowKit

theorem or_all : ∀ e : Fin 8, ∀ x : Fin 128, ∀ v : Fin 2, x.val < 2 ^ e.val → bits BinOp.or IntKind.u8 (x.val : Int) ((v.val : Int) * 2 ^ e.val % 256) = (x.val : Int) + (v.val : Int) * 2 ^ e.val := by decide +kernel
theorem or_bit {x v : Int} {e : Nat} (he : e < 8) (h0 : 0 ≤ x) (h1 : x < 2 ^ e) (v0 : 0 ≤ v) (v1 : v ≤ 1) : bits BinOp.or IntKind.u8 x (v * 2 ^ e % 256) = x + v * 2 ^ e := by
  have h7 : (2 : Int) ^ e ≤ 128 := by
    match e, he with
    | 0, _ | 1, _ | 2, _ | 3, _ | 4, _ | 5, _ | 6, _ | 7, _ => decide
  have := or_all ⟨e, he⟩ ⟨x.toNat, by omega⟩ ⟨v.toNat, by omega⟩ (by
    show x.toNat < 2 ^ e
    have h2 : ((x.toNat : Nat) : Int) < ((2 ^ e : Nat) : Int) := by rw [Int.toNat_of_nonneg h0]; push_cast; exact h1
    exact Int.ofNat_lt.1 h2)
  simp only [Int.toNat_of_nonneg h0, Int.toNat_of_nonneg v0] at this
  exact this

/-- May raw bits be put? -/
def MayRaw (x n : Int) : Prop := 0 ≤ n ∧ n ≤ 16 ∧ x < 2 ^ n.toNat


theorem and_one {x : Int} (h0 : 0 ≤ x) (h1 : x < 4294967296) : bits BinOp.and IntKind.u32 x 1 = x % 2 := by
  have e1 : (BitVec.ofInt 32 1).toNat = 2 ^ 1 - 1 := by decide
  have key : (BitVec.ofInt 32 x &&& BitVec.ofInt 32 1).toNat = (x % ((2 ^ 32 : Nat) : Int)).toNat % 2 ^ 1 := by
    rw [BitVec.toNat_and, BitVec.toNat_ofInt, e1, Nat.and_two_pow_sub_one_eq_mod]
  show IntKind.u32.wrap ((BitVec.ofInt 32 x &&& BitVec.ofInt 32 1).toNat : Nat) = x % 2
  rw [key, wrap_u32 (by omega) (by omega)]
  omega
end Go.Proofs.YtfgpmdikkncckaaGreatDoor
namespace Go.Proofs.YtfgpmdikkncckaaGreatDoor
set_option linter.unusedVariables false
open Go.ChangeShapes Go.WideShapes Go.ChangeAt Go.RowKit
end Go.Proofs.YtfgpmdikkncckaaGreatDoor
namespace Go.Proofs.YtfgpmdikkncckaaGreatDoor
set_option linter.unusedVariables false
open Go.ChangeShapes Go.WideShapes Go.ChangeAt Go.RowKit

theorem u8_info : (Tryz.prog.info? 5).map (fun i => (i.zero, i.size, i.bytes)) = some (some (.int .u8 0), 1, 1) := by kernel_rfl
theorem u8_size : (Tryz.prog.info? 5).map (·.size) = some 1 := by kernel_rfl

def bytesL (f : Nat → Int) (n : Nat) : List Value := (List.range n).map fun i => .int .u8 (f i)
theorem bytesL_len (f : Nat → Int) (n : Nat) : (bytesL f n).length = n := by simp [bytesL]
theorem bytesL_at (f : Nat → Int) {n i : Nat} (h : i < n) : (bytesL f n)[i]? = some (.int .u8 (f i)) := by simp [bytesL, h]
theorem bytesL_inv (f : Nat → Int) {n i : Nat} {v : Value} (h : (bytesL f n)[i]? = some v) : i < n ∧ v = .int .u8 (f i) := by
  have hi : i < n := by
    have := (List.getElem?_eq_some_iff.1 h).1
    rw [bytesL_len] at this; exact this
  rw [bytesL_at f hi] at h
  cases h
  exact ⟨hi, rfl⟩
theorem bytesL_one (f : Nat → Int) (n : Nat) : ∀ v ∈ bytesL f n, v.oneCell' = true := by
  intro v hv
  obtain ⟨i, _, rfl⟩ := List.mem_map.1 hv
  rfl
theorem splice_at {α : Type} (L : List α) (off : Nat) (cs : List α) (h : off + cs.length ≤ L.length) (i : Nat) : (splice L off cs)[i]? = if i < off then L[i]? else if i < off + cs.length then cs[i - off]? else L[i]? := by
  unfold splice
  by_cases h1 : i < off
  · rw [if_pos h1, List.getElem?_append_left (by simp; omega), List.getElem?_take, if_pos h1]
  · rw [if_neg h1, List.getElem?_append_right (by simp; omega)]
    have e : min off L.length = off := by omega
    rw [List.length_take, e]
    by_cases h2 : i < off + cs.length
    · rw [if_pos h2, List.getElem?_append_left (by omega)]
    · rw [if_neg h2, List.getElem?_append_right (by omega), List.getElem?_drop]
      congr 1
      omega

theorem splice_len {α : Type} (L : List α) (off : Nat) (cs : List α) (h : off + cs.length ≤ L.length) : (splice L off cs).length = L.length := by
  unfold splice; simp; omega
theorem lt_size_of_block {w : World} {g : Nat} {o : Obj} (h : w.heap[g]? = some o) : g < w.heap.size := (Array.getElem?_eq_some_iff.1 h).1
theorem lit_heap {w : World} {g : Nat} {o : Obj} (h : w.heap[g]? = some o) (hlt : g < w.heap.size) (o' : Obj) : (w.alloc o').drew.heap[g]? = some o := (heap_alloc_old w o' hlt).trans h
theorem lit_one (a b c : Int) : ∀ v ∈ ([.int .u8 a, .int .u8 b, .int .u8 c] : List Value), v.oneCell' = true := by
  intro v hv
  simp only [List.mem_cons, List.not_mem_nil, or_false] at hv
  rcases hv with rfl | rfl | rfl <;> rfl
theorem lit_cells (w : World) (a b c : Value) (t : TypeId) : ∀ (j : Nat) (v : Value), [a, b, c][j]? = some v → (w.alloc (.cells #[a, b, c] t)).drew.cell? (Addr.add ⟨w.heap.size, 0, none⟩ j) = some v := by
  intro j v h
  have hb := heap_alloc_new w (.cells #[a, b, c] t)
  have := cell_of_row (w.alloc (.cells #[a, b, c] t)) w.heap.size j _ _ _ hb
  rw [add_plain, Nat.zero_add]
  show (w.alloc (.cells #[a, b, c] t)).cell? _ = _
  rw [this]
  simpa using h
theorem below_lit {w0 w : World} {B : Nat} (h : Below B w0 w) (hlt : B < w.heap.size) (o : Obj) : Below B w0 (w.alloc o).drew :=
  (h.alloc (Nat.le_of_lt hlt) o).drew

/-- Bytes that lie in a block of their own. -/
def BytesAt (w : World) (g z : Nat) (p : Nat → Int) : Prop := ∃ L : List Value, w.heap[g]? = some (.cells L.toArray 5 (0, 0)) ∧ L.length = z ∧ ∀ i, i < z → L[i]? = some (.int .u8 (p i))
theorem BytesAt.cell {w : World} {g z : Nat} {p : Nat → Int} (h : BytesAt w g z p) {i : Nat} (hi : i < z) : w.cell? ⟨g, i, none⟩ = some (.int .u8 (p i)) := by
  obtain ⟨L, h1, h2, h3⟩ := h
  rw [cell_of_row _ _ i _ _ _ h1]
  simpa using h3 i hi
theorem BytesAt.kept {w w' : World} {g z : Nat} {p : Nat → Int} (h : BytesAt w g z p) (hb : w'.heap[g]? = w.heap[g]?) : BytesAt w' g z p := by
  obtain ⟨L, h1, h2, h3⟩ := h
  exact ⟨L, hb.trans h1, h2, h3⟩
theorem BytesAt.lt {w : World} {g z : Nat} {p : Nat → Int} (h : BytesAt w g z p) : g < w.heap.size := by
  obtain ⟨L, h1, h2, h3⟩ := h
  exact lt_size_of_block h1
end Go.Proofs.YtfgpmdikkncckaaGreatDoor
namespace Go.Proofs.YtfgpmdikkncckaaGreatDoor
set_option linter.unusedVariables false
open Go.ChangeShapes Go.WideShapes Go.ChangeAt Go.RowKit

theorem below_grown {B b : Nat} {W w w' : World} (h : Below B W w) (hg : w.grownBy w' (some b)) (hb : B ≤ b) (hs : B ≤ w.heap.size) : Below B W w' :=
  h.trans ⟨hg.os, hg.tape, hg.output, hg.size, fun k hk => hg.block k (by omega) (by simp; omega)⟩
theorem grown_size {w w' : World} {row : Option Nat} (h : w.grownBy w' row) : w.heap.size ≤ w'.heap.size := h.size

/-- A variable of the caller's own, behind a call that turns the writer alone. -/
theorem op_cell {wr w2 : World} {b : Nat} {cs : Array Value} {t : TypeId} (hg : (wr.alloc (.cells cs t)).drew.grownBy w2 (some b)) (hb : b < wr.heap.size) (i : Nat) {v : Value} (hv : cs[i]? = some v) : w2.cell? ⟨wr.heap.size, i, none⟩ = some v := by
  have h1 := heap_alloc_new wr (.cells cs t)
  have h2 : w2.heap[wr.heap.size]? = (wr.alloc (.cells cs t)).drew.heap[wr.heap.size]? := hg.block wr.heap.size (lt_size_of_block h1) (by simp; omega)
  rw [cell_of_row _ _ i _ _ _ (h2.trans h1)]
  exact hv

theorem var_cell {w1 w2 : World} {g b : Nat} {cs : Array Value} {t : TypeId} {fr : Nat × Nat} (hg : w1.grownBy w2 (some b)) (h1 : w1.heap[g]? = some (.cells cs t fr)) (hne : g ≠ b) : w2.heap[g]? = some (.cells cs t fr) :=
  (hg.block g (lt_size_of_block h1) (by simp; exact hne)).trans h1
theorem row_cell {w : World} {g : Nat} {cs : Array Value} {t : TypeId} {fr : Nat × Nat} (h : w.heap[g]? = some (.cells cs t fr)) (i : Nat) {v : Value} (hv : cs[i]? = some v) : w.cell? ⟨g, i, none⟩ = some v := by
  rw [cell_of_row _ _ i _ _ _ h]; exact hv

/-- A symbol, put or refused. -/
def Mo.putU (m : Mo) (x y t : Int) : Mo := if 0 ≤ x ∧ x < y ∧ y ≤ t ∧ t ≤ 4096 then m.put x y t else m
def putE (x y t : Int) : Int := if 0 ≤ x ∧ x < y ∧ y ≤ t ∧ t ≤ 4096 then 0 else 1
/-- Raw bits, put or refused. -/
def Mo.rawU (m : Mo) (x n : Int) : Mo := if 0 ≤ n ∧ n ≤ 16 ∧ x < 2 ^ n.toNat then Mo.raw n.toNat x m else m
def rawE (x n : Int) : Int := if 0 ≤ n ∧ n ≤ 16 ∧ x < 2 ^ n.toNat then 0 else 1

theorem putU_good {m : Mo} (h : m.Good) (x y t : Int) : (m.putU x y t).Good := by
  unfold Mo.putU; split
  · rename_i hm; exact put_ok h hm
  · exact h
theorem putU_n {m : Mo} (x y t : Int) : m.nD ≤ (m.putU x y t).nD ∧ (m.putU x y t).nD ≤ m.nD + 2 ∧ (m.putU x y t).nR = m.nR ∧ (m.putU x y t).R = m.R := by
  unfold Mo.putU; split
  · exact ⟨(put_nD m x y t).1, (put_nD m x y t).2, put_nR m x y t⟩
  · exact ⟨by omega, by omega, rfl, rfl⟩
theorem rawU_good {m : Mo} (h : m.Good) (x n : Int) : (m.rawU x n).Good := by
  unfold Mo.rawU; split
  · exact raw_good h _ _
  · exact h
theorem rawU_n {m : Mo} (x n : Int) : (m.rawU x n).nD = m.nD ∧ m.nR ≤ (m.rawU x n).nR ∧ (m.rawU x n).nR ≤ m.nR + 16 := by
  unfold Mo.rawU; split
  · rename_i h
    have := raw_nR n.toNat x m
    exact ⟨this.2.1, by omega, by omega⟩
  · exact ⟨rfl, by omega, by omega⟩

/-- A call as it is handed in. -/
structure Opv where
  k : Int
  a : Int
  b : Int
  t : Int
  x : Int
structure Opv.Ok (o : Opv) : Prop where
  k0 : 0 ≤ o.k
  k1 : o.k ≤ 255
  wa : (Lit.int .i64 o.a).wf = true
  wb : (Lit.int .i64 o.b).wf = true
  wt : (Lit.int .i64 o.t).wf = true
  x0 : 0 ≤ o.x
  x1 : o.x < 4294967296
/-- A list of n calls lies at this address (where there is one of them at all). -/
def OpsAt (w : World) (ao : Option Addr) (n : Nat) (f : Nat → Opv) : Prop :=
  ∀ i, i < n → ∃ b off, ao = some ⟨b, off, none⟩ ∧ w.cell? ⟨b, off + i * 5, none⟩ = some (.int .u8 (f i).k) ∧ w.cell? ⟨b, off + i * 5 + 1, none⟩ = some (.int .i64 (f i).a) ∧ w.cell? ⟨b, off + i * 5 + 2, none⟩ = some (.int .i64 (f i).b) ∧ w.cell? ⟨b, off + i * 5 + 3, none⟩ = some (.int .i64 (f i).t) ∧ w.cell? ⟨b, off + i * 5 + 4, none⟩ = some (.int .u32 (f i).x) ∧ (f i).Ok
theorem OpsAt.below {w w' : World} {ao : Option Addr} {n : Nat} {f : Nat → Opv} (h : OpsAt w ao n f) (hb : Below w.heap.size w w') : OpsAt w' ao n f := by
  intro i hi
  obtain ⟨b, off, h1, c0, c1, c2, c3, c4, ho⟩ := h i hi
  have hl : b < w.heap.size := block_lt_of_cell c0
  exact ⟨b, off, h1, by rw [hb.cell hl]; exact c0, by rw [hb.cell hl]; exact c1, by rw [hb.cell hl]; exact c2, by rw [hb.cell hl]; exact c3, by rw [hb.cell hl]; exact c4, ho⟩
/-- A call, done. -/
def Mo.op (m : Mo) (o : Opv) : Mo := if o.k % 2 = 0 then m.putU o.a o.b o.t else m.rawU o.x o.b
def Mo.ops (f : Nat → Opv) : Nat → Mo → Mo
  | 0, m => m
  | n + 1, m => (Mo.ops f n m).op (f n)
theorem op_good {m : Mo} (h : m.Good) (o : Opv) : (m.op o).Good := by
  unfold Mo.op; split
  · exact putU_good h _ _ _
  · exact rawU_good h _ _
theorem op_n {m : Mo} (o : Opv) : m.nD ≤ (m.op o).nD ∧ (m.op o).nD ≤ m.nD + 2 ∧ m.nR ≤ (m.op o).nR ∧ (m.op o).nR ≤ m.nR + 16 := by
  unfold Mo.op; split
  · have := putU_n (m := m) o.a o.b o.t; omega
  · have := rawU_n (m := m) o.x o.b; omega
theorem ops_good (f : Nat → Opv) {m : Mo} (h : m.Good) : ∀ n, (Mo.ops f n m).Good
  | 0 => h
  | n + 1 => op_good (ops_good f h n) _
theorem ops_n (f : Nat → Opv) (m : Mo) : ∀ n, m.nD ≤ (Mo.ops f n m).nD ∧ (Mo.ops f n m).nD ≤ m.nD + 2 * n ∧ m.nR ≤ (Mo.ops f n m).nR ∧ (Mo.ops f n m).nR ≤ m.nR + 16 * n
  | 0 => ⟨Nat.le_refl _, Nat.le_refl _, Nat.le_refl _, Nat.le_refl _⟩
  | n + 1 => by
    have h1 := ops_n f m n
    have h2 := op_n (m := Mo.ops f n m) (f n)
    rw [Mo.ops]
    omega

/-- The string of so many bytes. -/
def strOf (p : Nat → Int) (z : Nat) : ByteArray := strOfNums ((List.range z).map p)
theorem strOf_congr {p q : Nat → Int} {z : Nat} (h : ∀ i, i < z → p i = q i) : strOf p z = strOf q z := by
  unfold strOf
  congr 1
  apply List.map_congr_left
  intro i hi
  exact h i (List.mem_range.1 hi)
theorem BytesAt.str {w : World} {g z cap o k : Nat} {p : Nat → Int} (h : BytesAt w g z p) (hk : o + k ≤ z) : (convert 22 9 (.slice (some ⟨g, o, none⟩) k cap)).run Tryz.prog w = .ok (.string (strOf (fun i => p (o + i)) k)) w := by
  refine run_convert_bytes_arg (P := Tryz.prog) w 22 5 Tryz.underlying22 Tryz.underlying5 g o k cap ((List.range k).map fun i => p (o + i)) (by simp) (fun i hi => ?_) 9 Tryz.underlying9
  rw [h.cell (by omega)]
  simp [List.getD, hi]
end Go.Proofs.YtfgpmdikkncckaaGreatDoor
