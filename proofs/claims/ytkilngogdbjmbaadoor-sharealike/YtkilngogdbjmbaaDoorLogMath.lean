/-
  How often each array of five is among the first ones of a list, which one most often (of several the one with more in the first place that differs), and what a map that counts them reads as. No condition; no program but the key's law.
-/
import Derived.Test.YtkilngogdbjmbaaDoorLogMap
import Derived.Test.YtkilngogdbjmbaaDoorAllocAwake
namespace Go.Proofs.YtkilngogdbjmbaaDoor
set_option linter.unusedVariables false
open Go.RowKit

theorem same5_iff (f g : Nat → Int) : same5 f g = true ↔ ∀ i, i < 5 → f i = g i := by
  simp only [same5, Bool.and_eq_true, beq_iff_eq]
  constructor
  · rintro ⟨⟨⟨⟨h0, h1⟩, h2⟩, h3⟩, h4⟩ i hi
    match i, hi with
    | 0, _ => exact h0
    | 1, _ => exact h1
    | 2, _ => exact h2
    | 3, _ => exact h3
    | 4, _ => exact h4
  · intro h
    exact ⟨⟨⟨⟨h 0 (by omega), h 1 (by omega)⟩, h 2 (by omega)⟩, h 3 (by omega)⟩, h 4 (by omega)⟩
theorem kl5_iff {f g : Nat → Int} (hf : Wf5 f) (hg : Wf5 g) : kl5 f = kl5 g ↔ same5 f g = true := by
  rw [same5_iff]
  exact ⟨kl5_inj hf hg, kl5_same⟩
theorem same5_symm {f g : Nat → Int} (h : same5 f g = true) : same5 g f = true := by
  rw [same5_iff] at h ⊢; exact fun i hi => (h i hi).symm
theorem same5_trans {f g h : Nat → Int} (h1 : same5 f g = true) (h2 : same5 g h = true) : same5 f h = true := by
  rw [same5_iff] at h1 h2 ⊢; exact fun i hi => (h1 i hi).trans (h2 i hi)

/-- Has f one more in the first place that differs? -/
def gt5 (f g : Nat → Int) : Bool := decide (g 0 < f 0) || (decide (f 0 = g 0) && (decide (g 1 < f 1) || (decide (f 1 = g 1) && (decide (g 2 < f 2) || (decide (f 2 = g 2) && (decide (g 3 < f 3) || (decide (f 3 = g 3) && decide (g 4 < f 4))))))))
theorem gt5_iff (f g : Nat → Int) : gt5 f g = true ↔ g 0 < f 0 ∨ (f 0 = g 0 ∧ (g 1 < f 1 ∨ (f 1 = g 1 ∧ (g 2 < f 2 ∨ (f 2 = g 2 ∧ (g 3 < f 3 ∨ (f 3 = g 3 ∧ g 4 < f 4))))))) := by
  simp [gt5]
theorem gt5_at {f g : Nat → Int} {k : Nat} (h : ∀ j, j < k → f j = g j) (hk : k < 5) (hne : f k ≠ g k) : gt5 f g = decide (g k < f k) := by
  have e : gt5 f g = true ↔ g k < f k := by
    rw [gt5_iff]
    match k, hk with
    | 0, _ => omega
    | 1, _ => have := h 0 (by omega); omega
    | 2, _ => have := h 0 (by omega); have := h 1 (by omega); omega
    | 3, _ => have := h 0 (by omega); have := h 1 (by omega); have := h 2 (by omega); omega
    | 4, _ => have := h 0 (by omega); have := h 1 (by omega); have := h 2 (by omega); have := h 3 (by omega); omega
  by_cases x : g k < f k
  · rw [decide_eq_true x]; exact e.2 x
  · rw [decide_eq_false x]
    cases hg : gt5 f g with
    | false => rfl
    | true => exact absurd (e.1 hg) x
theorem gt5_same {f g : Nat → Int} (h : ∀ j, j < 5 → f j = g j) : gt5 f g = false := by
  have h0 := h 0 (by omega); have h1 := h 1 (by omega); have h2 := h 2 (by omega); have h3 := h 3 (by omega); have h4 := h 4 (by omega)
  simp [gt5, h0, h1, h2, h3, h4]
theorem gt5_congr {f f' g g' : Nat → Int} (h : same5 f f' = true) (h' : same5 g g' = true) : gt5 f g = gt5 f' g' := by
  rw [same5_iff] at h h'
  unfold gt5
  rw [h 0 (by omega), h 1 (by omega), h 2 (by omega), h 3 (by omega), h 4 (by omega), h' 0 (by omega), h' 1 (by omega), h' 2 (by omega), h' 3 (by omega), h' 4 (by omega)]
theorem gt5_tri (f g : Nat → Int) : gt5 f g = true ∨ gt5 g f = true ∨ same5 f g = true := by
  rw [gt5_iff, gt5_iff]
  simp only [same5, Bool.and_eq_true, beq_iff_eq]
  omega
theorem gt5_trans {f g h : Nat → Int} (h1 : gt5 f g = true) (h2 : gt5 g h = true) : gt5 f h = true := by
  rw [gt5_iff] at h1 h2 ⊢
  omega

/-- How often an array is among the first n. -/
def cnt5 (F : Nat → Nat → Int) (g : Nat → Int) : Nat → Nat
  | 0 => 0
  | k + 1 => cnt5 F g k + (if same5 (F k) g = true then 1 else 0)
theorem cnt5_le (F : Nat → Nat → Int) (g : Nat → Int) : ∀ n, cnt5 F g n ≤ n
  | 0 => Nat.le_refl _
  | k + 1 => by have := cnt5_le F g k; rw [cnt5]; split <;> omega
theorem cnt5_pos {F : Nat → Nat → Int} {g : Nat → Int} {i : Nat} (hs : same5 (F i) g = true) : ∀ {n : Nat}, i < n → 0 < cnt5 F g n
  | 0, h => by omega
  | k + 1, h => by
    rw [cnt5]
    by_cases e : i = k
    · subst e; rw [if_pos hs]; omega
    · have := cnt5_pos (n := k) hs (by omega); omega
theorem cnt5_has {F : Nat → Nat → Int} {g : Nat → Int} : ∀ {n : Nat}, 0 < cnt5 F g n → ∃ i, i < n ∧ same5 (F i) g = true
  | 0, h => by rw [cnt5] at h; omega
  | k + 1, h => by
    rw [cnt5] at h
    by_cases hs : same5 (F k) g = true
    · exact ⟨k, by omega, hs⟩
    · rw [if_neg hs] at h
      obtain ⟨i, hi, e⟩ := cnt5_has (n := k) (by omega)
      exact ⟨i, by omega, e⟩
theorem cnt5_congr {F : Nat → Nat → Int} {g g' : Nat → Int} (h : same5 g g' = true) : ∀ n, cnt5 F g n = cnt5 F g' n
  | 0 => rfl
  | k + 1 => by
    rw [cnt5, cnt5, cnt5_congr h k]
    by_cases hs : same5 (F k) g = true
    · rw [if_pos hs, if_pos (same5_trans hs h)]
    · rw [if_neg hs, if_neg (fun x => hs (same5_trans x (same5_symm h)))]
theorem cnt5_split (F : Nat → Nat → Int) (g : Nat → Int) (k : Nat) : ∀ m, cnt5 F g (k + m) = cnt5 F g k + cnt5 (fun i => F (k + i)) g m
  | 0 => rfl
  | m + 1 => by
    rw [show k + (m + 1) = (k + m) + 1 by omega, cnt5, cnt5, cnt5_split F g k m]; omega

/-- What a map that counts reads as. -/
def Tal (T : (Nat → Int) → Nat) (D : DataW Unit) : Prop :=
  ∀ f, Wf5 f → D.atKey (kl5 f) (.lit (.int .i64 0)) = .lit (.int .i64 (T f : Nat)) ∧ Maps.has D (kl5 f) = decide (0 < T f)
theorem Tal.none : Tal (fun _ => 0) (.map []) := fun f _ => ⟨rfl, rfl⟩
theorem Tal.put {T : (Nat → Int) → Nat} {D : DataW Unit} (h : Tal T D) (hT : Maps.IsMap D) {g : Nat → Int} (hg : Wf5 g) : Tal (fun f => T f + (if same5 g f = true then 1 else 0)) (D.put (kl5 g) (.lit (.int .i64 ((T g : Nat) + 1)))) := by
  intro f hf
  by_cases e : same5 g f = true
  · have ek : kl5 f = kl5 g := ((kl5_iff hg hf).2 e).symm
    have et : T f = T g := by
      have h1 := (h f hf).1
      have h2 := (h g hg).1
      rw [ek, h2] at h1
      injection h1 with h1
      injection h1 with _ h1
      omega
    show _ = DataW.lit (.int .i64 ((T f + (if same5 g f = true then 1 else 0) : Nat) : Int)) ∧ _ = decide (0 < T f + (if same5 g f = true then 1 else 0))
    rw [if_pos e, ek, Maps.atKey_put_same hT (kl5_key _), Maps.has_put_same hT (kl5_key _), et]
    exact ⟨by simp, by simp⟩
  · have hne : kl5 f ≠ kl5 g := fun x => e ((kl5_iff hg hf).1 x.symm)
    show _ = DataW.lit (.int .i64 ((T f + (if same5 g f = true then 1 else 0) : Nat) : Int)) ∧ _ = decide (0 < T f + (if same5 g f = true then 1 else 0))
    rw [if_neg e, Maps.atKey_put_other hne, Maps.has_put_other hne, Nat.add_zero]
    exact h f hf
theorem Tal.congr {T T' : (Nat → Int) → Nat} {D : DataW Unit} (h : Tal T D) (e : ∀ f, T f = T' f) : Tal T' D := by
  have : T = T' := funext e
  rw [← this]; exact h

/-- Is one of a pair (how often, what) ahead of another? -/
def Ahead (c : Nat) (f : Nat → Int) (m : Nat) (g : Nat → Int) : Prop := m < c ∨ (c = m ∧ gt5 f g = true)
/-- The best of those that are done. -/
structure Best (F : Nat → Nat → Int) (n : Nat) (done : Nat → Prop) (m : Nat) (f : Nat → Int) : Prop where
  is : (m = 0 ∧ (∀ j, f j = 0) ∧ ∀ i, i < n → ¬ done i) ∨ (0 < m ∧ ∃ i, i < n ∧ done i ∧ same5 (F i) f = true ∧ m = cnt5 F (F i) n)
  top : ∀ i, i < n → done i → ¬ Ahead (cnt5 F (F i) n) (F i) m f
theorem Best.none {F : Nat → Nat → Int} {n : Nat} {done : Nat → Prop} (h : ∀ i, i < n → ¬ done i) : Best F n done 0 (fun _ => 0) := ⟨.inl ⟨rfl, fun _ => rfl, h⟩, fun i hi hd => absurd hd (h i hi)⟩
theorem Best.one {F : Nat → Nat → Int} {n : Nat} {done : Nat → Prop} {m m' : Nat} {f f' : Nat → Int} (h : Best F n done m f) (h' : Best F n done m' f') : m = m' ∧ same5 f f' = true := by
  rcases h.is with ⟨e1, e2, e3⟩ | ⟨p, i, hi, hd, hs, hm⟩
  · rcases h'.is with ⟨e1', e2', e3'⟩ | ⟨p', i', hi', hd', _, _⟩
    · exact ⟨by omega, by rw [same5_iff]; exact fun j _ => (e2 j).trans (e2' j).symm⟩
    · exact absurd hd' (e3 i' hi')
  · rcases h'.is with ⟨e1', e2', e3'⟩ | ⟨p', i', hi', hd', hs', hm'⟩
    · exact absurd hd (e3' i hi)
    · have a := h.top i' hi' hd'
      have a' := h'.top i hi hd
      unfold Ahead at a a'
      rw [← hm', gt5_congr hs' (same5_refl f)] at a
      rw [← hm, gt5_congr hs (same5_refl f')] at a'
      have em : m = m' := by omega
      refine ⟨em, ?_⟩
      rcases gt5_tri f f' with x | x | x
      · exact absurd (.inr ⟨em, x⟩) a'
      · exact absurd (.inr ⟨em.symm, x⟩) a
      · exact x
/-- One more kind is done: it goes ahead of the best so far, or it doesn't. -/
theorem Best.take {F : Nat → Nat → Int} {n : Nat} {done done' : Nat → Prop} {m : Nat} {f g : Nat → Int} (h : Best F n done m f) (hd : ∀ i, i < n → (done' i ↔ done i ∨ same5 (F i) g = true)) {i0 : Nat} (h0 : i0 < n) (hs0 : same5 (F i0) g = true) (ha : Ahead (cnt5 F g n) g m f) : Best F n done' (cnt5 F g n) g := by
  refine ⟨.inr ⟨cnt5_pos hs0 h0, i0, h0, (hd i0 h0).2 (.inr hs0), hs0, (cnt5_congr hs0 n).symm⟩, fun i hi hdi hx => ?_⟩
  rcases (hd i hi).1 hdi with x | x
  · have := h.top i hi x
    unfold Ahead at this hx ha
    apply this
    rcases ha with ha | ⟨ha, hag⟩
    · rcases hx with hx | ⟨hx, _⟩
      · left; omega
      · left; omega
    · rcases hx with hx | ⟨hx, hxg⟩
      · left; omega
      · right; exact ⟨by omega, gt5_trans hxg hag⟩
  · unfold Ahead at hx
    rw [cnt5_congr x n, gt5_congr x (same5_refl g), gt5_same (fun _ _ => rfl)] at hx
    simp at hx
theorem Best.leave {F : Nat → Nat → Int} {n : Nat} {done done' : Nat → Prop} {m : Nat} {f g : Nat → Int} (h : Best F n done m f) (hd : ∀ i, i < n → (done' i ↔ done i ∨ same5 (F i) g = true)) (hm : 0 < m) (ha : ¬ Ahead (cnt5 F g n) g m f) : Best F n done' m f := by
  refine ⟨?_, fun i hi hdi hx => ?_⟩
  · rcases h.is with ⟨e, _⟩ | ⟨p, i, hi, hdi, hs, hc⟩
    · omega
    · exact .inr ⟨p, i, hi, (hd i hi).2 (.inl hdi), hs, hc⟩
  · rcases (hd i hi).1 hdi with x | x
    · exact h.top i hi x hx
    · apply ha
      unfold Ahead at hx ⊢
      rwa [cnt5_congr x n, gt5_congr x (same5_refl f)] at hx
theorem Best.more {F : Nat → Nat → Int} {n : Nat} {done done' : Nat → Prop} {m : Nat} {f : Nat → Int} (h : Best F n done m f) (hd : ∀ i, i < n → (done' i ↔ done i)) : Best F n done' m f :=
  ⟨by rcases h.is with ⟨a, b, c⟩ | ⟨p, i, hi, hdi, hs, hc⟩
      · exact .inl ⟨a, b, fun i hi x => c i hi ((hd i hi).1 x)⟩
      · exact .inr ⟨p, i, hi, (hd i hi).2 hdi, hs, hc⟩, fun i hi x => h.top i hi ((hd i hi).1 x)⟩
theorem Best.bd {F : Nat → Nat → Int} {n : Nat} {done : Nat → Prop} {m : Nat} {f : Nat → Int} (h : Best F n done m f) : m ≤ n := by
  rcases h.is with ⟨a, _⟩ | ⟨_, i, _, _, _, hc⟩
  · omega
  · rw [hc]; exact cnt5_le _ _ _

/-- How many of a list are done. -/
def nd (F : Nat → Nat → Int) (left : Lit → Bool) : Nat → Nat
  | 0 => 0
  | k + 1 => nd F left k + (if left (kl5 (F k)) = true then 0 else 1)
theorem nd_le (F : Nat → Nat → Int) (left : Lit → Bool) : ∀ k, nd F left k ≤ k
  | 0 => Nat.le_refl _
  | k + 1 => by have := nd_le F left k; rw [nd]; split <;> omega
theorem nd_all {F : Nat → Nat → Int} {left : Lit → Bool} (h : ∀ kl, left kl = false) : ∀ n, nd F left n = n
  | 0 => rfl
  | n + 1 => by rw [nd, nd_all h n, if_neg (by rw [h]; simp)]
theorem nd_none {F : Nat → Nat → Int} {left : Lit → Bool} : ∀ {n : Nat}, (∀ i, i < n → left (kl5 (F i)) = true) → nd F left n = 0
  | 0, _ => rfl
  | n + 1, h => by rw [nd, nd_none (fun i hi => h i (by omega)), if_pos (h n (by omega))]
theorem struck {left : Lit → Bool} {f g : Nat → Int} (hf : Wf5 f) (hg : Wf5 g) : (left (kl5 f) && !(kl5 f).sameKey (kl5 g)) = true ↔ left (kl5 f) = true ∧ ¬ same5 f g = true := by
  rw [Bool.and_eq_true, ← kl5_iff hf hg]
  constructor
  · rintro ⟨a, b⟩
    refine ⟨a, fun e => ?_⟩
    rw [e, WideAt.sameKey_self (kl5_key _)] at b
    cases b
  · rintro ⟨a, b⟩
    refine ⟨a, ?_⟩
    rw [Maps.sameKey_ne b]; rfl
theorem nd_step {F : Nat → Nat → Int} {left : Lit → Bool} {g : Nat → Int} (hg : Wf5 g) (hl : left (kl5 g) = true) : ∀ {n : Nat}, (∀ i, i < n → Wf5 (F i)) → nd F (fun z => left z && !z.sameKey (kl5 g)) n = nd F left n + cnt5 F g n
  | 0, _ => rfl
  | n + 1, h => by
    have ih := nd_step (F := F) (n := n) hg hl (fun i hi => h i (by omega))
    have hs := struck (left := left) (h n (by omega)) hg
    rw [nd, nd, cnt5, ih]
    by_cases e : same5 (F n) g = true
    · have : left (kl5 (F n)) = true := by rw [(kl5_iff (h n (by omega)) hg).2 e]; exact hl
      rw [if_neg (fun x => (hs.1 x).2 e), if_pos this, if_pos e]; omega
    · rw [if_neg e]
      by_cases x : left (kl5 (F n)) = true
      · rw [if_pos (hs.2 ⟨x, e⟩), if_pos x]; omega
      · rw [if_neg (fun y => x (hs.1 y).1), if_neg x]; omega
/-- Of a list those are done that are no longer to come. -/
def doneL (F : Nat → Nat → Int) (left : Lit → Bool) (i : Nat) : Prop := ¬ left (kl5 (F i)) = true
theorem doneL_step {F : Nat → Nat → Int} {left : Lit → Bool} {g : Nat → Int} {n : Nat} (hg : Wf5 g) (hF : ∀ i, i < n → Wf5 (F i)) : ∀ i, i < n → (doneL F (fun z => left z && !z.sameKey (kl5 g)) i ↔ doneL F left i ∨ same5 (F i) g = true) := by
  intro i hi
  unfold doneL
  rw [struck (left := left) (hF i hi) hg]
  by_cases x : left (kl5 (F i)) = true <;> simp [x]
end Go.Proofs.YtkilngogdbjmbaaDoor
