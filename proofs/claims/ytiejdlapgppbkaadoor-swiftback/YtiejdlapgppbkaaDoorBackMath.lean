/-
  Plain mathematics of layer 7: of a writer's packet a reader reads what was put, in order. No condition; no program.
-/
import Derived.Test.YtiejdlapgppbkaaDoorReaderMath
import Derived.Test.YtiejdlapgppbkaaDoorWriterLaws
namespace Go.Proofs.YtiejdlapgppbkaaDoor
set_option linter.unusedVariables false
open Go.RowKit

/-- A call that was taken. -/
structure Acc (o : Opv) : Prop where
  ok : o.Ok
  p : o.k % 2 = 0 → 0 ≤ o.a ∧ o.a < o.b ∧ o.b ≤ o.t ∧ o.t ≤ 4096
  r : ¬ o.k % 2 = 0 → 0 ≤ o.b ∧ o.b ≤ 16 ∧ o.x < 2 ^ o.b.toNat

theorem ops_congr {f g : Nat → Opv} (m : Mo) : ∀ n, (∀ i, i < n → f i = g i) → Mo.ops f n m = Mo.ops g n m
  | 0, _ => rfl
  | n + 1, h => by rw [Mo.ops, Mo.ops, ops_congr m n (fun i hi => h i (by omega)), h n (by omega)]
/-- The writer behind so many calls. -/
def Mk (F : Nat → Opv) (i : Nat) : Mo := Mo.ops F i Mo.new
theorem mk_congr {f g : Nat → Opv} {n : Nat} (h : ∀ i, i < n → f i = g i) : Mk f n = Mk g n := ops_congr _ n h
theorem mk_succ (F : Nat → Opv) (i : Nat) : Mk F (i + 1) = (Mk F i).op (F i) := rfl
theorem mk_good (F : Nat → Opv) (i : Nat) : (Mk F i).Good := ops_good F new_ok i
theorem mk_n (F : Nat → Opv) (i : Nat) : 3 ≤ (Mk F i).nD ∧ (Mk F i).nD ≤ 3 + 2 * i ∧ (Mk F i).nR ≤ 16 * i := by
  have h := ops_n F Mo.new i
  have e1 : Mo.new.nD = 3 := rfl
  have e2 : Mo.new.nR = 0 := rfl
  rw [e1, e2] at h
  unfold Mk
  omega

section
variable {F : Nat → Opv} {c : Nat}
theorem mk_put {i : Nat} (h : Acc (F i)) (hk : (F i).k % 2 = 0) : Mk F (i + 1) = (Mk F i).put (F i).a (F i).b (F i).t := by
  rw [mk_succ]; unfold Mo.op; rw [if_pos hk]; unfold Mo.putU; rw [if_pos (h.p hk)]
theorem mk_raw {i : Nat} (h : Acc (F i)) (hk : ¬ (F i).k % 2 = 0) : Mk F (i + 1) = Mo.raw (F i).b.toNat (F i).x (Mk F i) := by
  rw [mk_succ]; unfold Mo.op; rw [if_neg hk]; unfold Mo.rawU; rw [if_pos (h.r hk)]
theorem mk_fit (h : ∀ j, j < c → Acc (F j)) : ∀ i, i ≤ c → (Mk F i).Fit
  | 0, _ => fit_new
  | i + 1, hi => by
    have ih := mk_fit h i (by omega)
    have ha := h i (by omega)
    by_cases hk : (F i).k % 2 = 0
    · rw [mk_put ha hk]; exact put_fit (mk_good F i) (ha.p hk) ih
    · rw [mk_raw ha hk]; exact raw_fit ih _ _
theorem mk_in (h : ∀ j, j < c → Acc (F j)) : ∀ d i, i + d = c → (Mk F i).In (Mk F c)
  | 0, i, e => by obtain rfl : i = c := by omega
                  exact in_self (mk_good F i)
  | d + 1, i, e => by
    have ih := mk_in h d (i + 1) (by omega)
    have ha := h i (by omega)
    have hg := mk_good F i
    by_cases hk : (F i).k % 2 = 0
    · rw [mk_put ha hk] at ih
      exact in_sym hg (ha.p hk) (mk_fit h i (by omega)) (in_wide (sym_ok hg.ok _ _ _) (mk_good F c).ok ih)
    · rw [mk_raw ha hk] at ih
      exact in_raw _ _ ih
theorem mk_R1 {i : Nat} (h : Acc (F i)) (k : Nat) (hk : k < (Mk F i).nR) : k < (Mk F (i + 1)).nR ∧ (Mk F (i + 1)).R k = (Mk F i).R k := by
  by_cases hp : (F i).k % 2 = 0
  · rw [mk_put h hp]
    obtain ⟨h1, h2⟩ := put_nR (Mk F i) (F i).a (F i).b (F i).t
    rw [h1, h2]; exact ⟨hk, rfl⟩
  · rw [mk_raw h hp]
    have h1 := (raw_nR (F i).b.toNat (F i).x (Mk F i)).1
    exact ⟨by rw [h1]; omega, (raw_at _ _ _ k).1 hk⟩
theorem mk_R (h : ∀ j, j < c → Acc (F j)) : ∀ d i, i + d = c → ∀ k, k < (Mk F i).nR → k < (Mk F c).nR ∧ (Mk F c).R k = (Mk F i).R k
  | 0, i, e, k, hk => by obtain rfl : i = c := by omega
                         exact ⟨hk, rfl⟩
  | d + 1, i, e, k, hk => by
    have h1 := mk_R1 (h i (by omega)) k hk
    have h2 := mk_R h d (i + 1) (by omega) k h1.1
    exact ⟨h2.1, h2.2.trans h1.2⟩

theorem at_good {m e : Mo} (h : m.Good) (hi : m.In e) : (Re.at m e).Good := by
  have h1 := hi.lo
  have h2 := hi.hi
  exact ⟨h.r1, h.r2, by show 0 ≤ num e.D m.nD - num m.D m.nD; omega, by show num e.D m.nD - num m.D m.nD < m.rng; omega⟩
theorem pk_digit {e : Mo} {z : Nat} {p : Nat → Int} (he : e.Ok) (hz : 0 ≤ e.left z) (hp : ∀ i, i < z → p i = e.pk z i) : ∀ i, i < e.nD → p i = e.D i := by
  intro i hi
  unfold Mo.left at hz
  rw [hp i (by omega)]
  unfold Mo.pk
  rw [rawB_zero he _ (by omega)]; omega
theorem back_new {e : Mo} {z : Nat} {p : Nat → Int} (he : e.Ok) (hz : 0 ≤ e.left z) (hp : ∀ i, i < z → p i = e.pk z i) : Re.new p = Re.at Mo.new e := by
  have h3 := he.n3
  have hd := pk_digit he hz hp
  unfold Re.new Re.at
  rw [hd 0 (by omega), hd 1 (by omega), hd 2 (by omega)]
  show (⟨16777216, _, 3, 0⟩ : Re) = ⟨16777216, num e.D 3 - num (fun _ => 0) 3, 3, 0⟩
  congr 1
  simp only [num]
  omega
theorem back_put (h : ∀ j, j < c → Acc (F j)) {z : Nat} {p : Nat → Int} (hz : 0 ≤ (Mk F c).left z) (hp : ∀ i, i < z → p i = (Mk F c).pk z i) {i : Nat} (hi : i < c) (hk : (F i).k % 2 = 0) :
    (Re.at (Mk F i) (Mk F c)).take p (F i).a (F i).b (F i).t = Re.at (Mk F (i + 1)) (Mk F c) ∧ (F i).a ≤ (Re.at (Mk F i) (Mk F c)).get (F i).t ∧ (Re.at (Mk F i) (Mk F c)).get (F i).t < (F i).b := by
  have ha := h i hi
  have hin := mk_in h (c - (i + 1)) (i + 1) (by omega)
  rw [mk_put ha hk] at hin ⊢
  exact at_put (mk_good F i) (mk_fit h i (by omega)) (ha.p hk) (mk_good F c).ok (pk_digit (mk_good F c).ok hz hp) hin
theorem back_raw (h : ∀ j, j < c → Acc (F j)) {z : Nat} {p : Nat → Int} (hz : 0 ≤ (Mk F c).left z) (hp : ∀ i, i < z → p i = (Mk F c).pk z i) {i : Nat} (hi : i < c) (hk : ¬ (F i).k % 2 = 0) :
    rsum z p (Mk F i).nR (rawK (F i).b) = (F i).x ∧ (Re.at (Mk F i) (Mk F c)).raw (rawK (F i).b) = Re.at (Mk F (i + 1)) (Mk F c) := by
  have ha := h i hi
  obtain ⟨b0, b1, hx⟩ := ha.r hk
  have hkk : rawK (F i).b = (F i).b.toNat := by unfold rawK; rw [if_neg (by omega), if_neg (by omega)]
  have hn := raw_nR (F i).b.toNat (F i).x (Mk F i)
  have hmk := mk_raw ha hk
  rw [hkk]
  constructor
  · rw [rsum_of (x := (F i).x) ha.ok.x0 _ (fun j hj => ?_), Int.emod_eq_of_lt ha.ok.x0 hx]
    have h1 : (Mk F i).nR + j < (Mk F (i + 1)).nR := by rw [hmk, hn.1]; omega
    have h2 := mk_R h (c - (i + 1)) (i + 1) (by omega) _ h1
    rw [pk_rbit (mk_good F c).ok hz hp h2.1, h2.2, hmk, (raw_at _ _ _ _).2 (by omega) (by omega)]
    congr 3
    omega
  · rw [hmk]
    unfold Re.raw Re.at
    rw [hn.1, hn.2.1, hn.2.2.1, hn.2.2.2]
end
end Go.Proofs.YtiejdlapgppbkaaDoor
