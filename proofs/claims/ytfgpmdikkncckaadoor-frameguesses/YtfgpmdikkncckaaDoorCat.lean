/-
  Bytes that are appended to a list of bytes of the call's own: others, and noughts. No condition.
-/
import Derived.Test.YtfgpmdikkncckaaDoorNums
import Derived.Test.YtfgpmdikkncckaaDoorIntsAt
import Derived.Test.YtfgpmdikkncckaaDoorWriterDone
import Derived.Maps.AppendAt
import Derived.Lib.AppendZeros
import Derived.Lib.AppendZerosOnto
namespace Go.Proofs.YtfgpmdikkncckaaDoor
set_option linter.unusedVariables false
open Go.ChangeShapes Go.WideShapes Go.ChangeAt Go.RowKit

def catF (n : Nat) (f g : Nat → Int) : Nat → Int := fun i => if i < n then f i else g (i - n)
theorem catF_lt {n i : Nat} (f g : Nat → Int) (h : i < n) : catF n f g i = f i := if_pos h
theorem catF_ge {n i : Nat} (f g : Nat → Int) (h : n ≤ i) : catF n f g i = g (i - n) := if_neg (by omega)
theorem numL_cat (k : IntKind) (f g : Nat → Int) (n m : Nat) : numL k f n ++ numL k g m = numL k (catF n f g) (n + m) := by
  apply List.ext_getElem?
  intro i
  by_cases h1 : i < n
  · rw [List.getElem?_append_left (by rw [numL_len]; exact h1), numL_at k f h1, numL_at k _ (by omega), catF_lt f g h1]
  · by_cases h2 : i < n + m
    · rw [List.getElem?_append_right (by rw [numL_len]; omega), numL_len, numL_at k g (by omega), numL_at k _ h2, catF_ge f g (by omega)]
    · rw [List.getElem?_eq_none (by rw [List.length_append, numL_len, numL_len]; omega), List.getElem?_eq_none (by rw [numL_len]; omega)]
theorem numL_ones (k : IntKind) (f : Nat → Int) (n : Nat) : ∀ u ∈ numL k f n, u.oneCell' = true := by
  intro u hu
  obtain ⟨i, _, rfl⟩ := List.mem_map.1 hu
  rfl
theorem IntsAt.news {w : World} {ad : Addr} {m : Nat} {k : IntKind} {g : Nat → Int} (h : IntsAt w (some ad) m k g) : ∀ j u, (numL k g m)[j]? = some u → w.cell? (ad.add j) = some u := by
  intro j u hu
  have hj : j < m := by have := (List.getElem?_eq_some_iff.1 hu).1; rw [numL_len] at this; exact this
  rw [numL_at k g hj] at hu
  cases hu
  obtain ⟨b, off, e, hc⟩ := h j hj
  cases e
  rw [add_plain]; exact hc

theorem run_cat (w : World) (ty : TypeId) (B : Nat) (v : Value) (n : Nat) (f : Nat → Int) (hown : OwnN w B 5 .u8 v n f) (ao : Option Addr) (m c : Nat) (g : Nat → Int) (hg : IntsAt w ao m .u8 g) (hn : n ≤ 1000000) (hm : m ≤ 1000000) (hB : B ≤ w.heap.size) :
    ∃ v' w', (Builtin.append_ #[22, 22] ty #[v, .slice ao m c]).run Tryd.prog w = .ok v' w' ∧ OwnN w' B 5 .u8 v' (n + m) (catF n f g) ∧ w.grownBy w' v.ownBlock ∧ (v'.ownBlock = v.ownBlock ∨ v'.ownBlock = some w.heap.size) := by
  obtain ⟨i0, hi, hz0, hz1, hz2⟩ := info_parts u8_info
  cases ao with
  | none =>
    obtain rfl : m = 0 := by
      cases m with
      | zero => rfl
      | succ m => obtain ⟨b, off, e, _⟩ := hg 0 (by omega); cases e
    refine ⟨v, w, ?_, hown.congr (fun i hi => (catF_lt f g hi).symm), grown_refl _ _, .inl rfl⟩
    obtain ⟨ao, cap, rfl, h1, h2, _⟩ := hown.slice
    cases ao with
    | none => simp [Builtin.append_, run_underlying Tryd.underlying22, sizeOf, typeInfo, hi, Builtin.lenOf, Builtin.firstCells, h1]
    | some a => simp [Builtin.append_, run_underlying Tryd.underlying22, sizeOf, typeInfo, hi, Builtin.lenOf, Builtin.firstCells, h1, storeCells]
  | some ad =>
    obtain ⟨v', w', hr, h2, h3, _, h5⟩ := run_append_own_at (P := Tryd.prog) w B 22 ty 5 i0 (.int .u8 0) 1 1 Tryd.underlying22 hi hz0 hz1 hz2 rfl (by decide) v n (numL .u8 f n) hown ad m c (numL .u8 g m) (by rw [numL_len, Nat.mul_one]) hg.news (numL_ones _ _ _) (by unfold maxLen; omega) (by omega) hB
    rw [numL_cat] at h2
    exact ⟨v', w', hr, h2, h3, h5⟩

theorem zeroCells_u8 (m : Nat) : (Builtin.zeroCells (Value.int .u8 0).cells m) = (numL .u8 (fun _ => 0) m).toArray := by
  apply Array.ext'
  unfold Builtin.zeroCells numL
  simp [Value.cells]
  intro a _
  rw [Nat.mod_one]
  rfl

theorem run_zeros (w : World) (ty : TypeId) (B : Nat) (v : Value) (n : Nat) (f : Nat → Int) (hown : OwnN w B 5 .u8 v n f) (m : Nat) (hn : n ≤ 1000000) (hm : m ≤ 1000000) (hB : B ≤ w.heap.size) :
    ∃ v' w', (Builtin.append_ #[22, 3] ty #[v, .int .i64 m]).run Tryd.prog w = .ok v' w' ∧ OwnN w' B 5 .u8 v' (n + m) (catF n f fun _ => 0) ∧ w.grownBy w' v.ownBlock ∧ (v'.ownBlock = v.ownBlock ∨ v'.ownBlock = some w.heap.size) := by
  obtain ⟨i0, hi, hz0, hz1, hz2⟩ := info_parts u8_info
  have hw : IntKind.i64.wrap (m : Int) = m := by simp [IntKind.wrap, IntKind.bits, IntKind.signed]; omega
  have hneg : ¬ ((m : Int) < 0) := by omega
  have h48i : ¬ (281474976710656 < (m : Int) * (i0.bytes : Int)) := by rw [hz2]; omega
  by_cases hm0 : m = 0
  · subst hm0
    refine ⟨v, w, ?_, hown.congr (fun i hi => (catF_lt f _ hi).symm), grown_refl _ _, .inl rfl⟩
    obtain ⟨ao, cap, rfl, h1, h2, _⟩ := hown.slice
    have hw0 : IntKind.i64.wrap 0 = 0 := rfl
    cases ao with
    | none => simp [Builtin.append_, run_underlying Tryd.underlying22, run_underlying Tryd.underlying3, sizeOf, typeInfo, zeroValue, hi, hz0, asInt, asIntOf, h1, hw0]
    | some a => simp [Builtin.append_, run_underlying Tryd.underlying22, run_underlying Tryd.underlying3, sizeOf, typeInfo, zeroValue, hi, hz0, asInt, asIntOf, h1, hw0, storeCells]
  · have hns : ¬ (m * i0.size = 0) := by rw [hz1]; omega
    rcases hown.2 with ⟨rfl, h0⟩ | ⟨g, cap, cur, rfl, hb, hg, hnc, hcm, hcs, htake⟩
    · have hr := Lib.run_append_nil_zeros (P := Tryd.prog) w 22 3 ty 5 i0 (.int .u8 0) .i64 .i64 Tryd.underlying22 Tryd.underlying3 hi hz0 m (by omega) (by rw [hz1]; decide) (by omega) (by rw [hz2]; omega)
      have hge := grownCap_ge w m 0 5
      subst h0
      refine ⟨_, _, hr, ?_, ⟨rfl, rfl, rfl, by simp, fun k hk _ => heap_alloc_old w.drew _ hk⟩, .inr rfl⟩
      rw [Nat.zero_add]
      refine ⟨by rw [numL_len, Nat.mul_one], .inr ⟨w.heap.size, _, _, rfl, hB, heap_alloc_new w.drew _, hge, grownCap_le_maxLen w m 0 _ (by unfold maxLen; omega), ?_, ?_⟩⟩
      · rw [Array.size_append, size_zeroCells, size_zeroCells]
        show m * 1 + _ * 1 = _
        omega
      · rw [zeroCells_u8, zeroCells_u8, Array.toList_append, Nat.mul_one]
        show (numL .u8 (fun _ => 0) m ++ _).take m = _
        rw [List.take_append_of_le_length (by rw [numL_len]; exact Nat.le_refl _), List.take_of_length_le (by rw [numL_len]; exact Nat.le_refl _)]
        exact numL_congr fun i hi => by rw [catF_ge _ _ (Nat.zero_le _)]
    · rw [Nat.mul_one] at hcs htake
      by_cases hroom : n + m ≤ cap
      · have hst := run_storeCells_at (P := Tryd.prog) g n 5 (numL .u8 (fun _ => 0) m) 0 cur w hg (by rw [numL_len]; omega) (numL_ones _ _ _)
        simp only [Nat.add_zero] at hst
        have hr : (Builtin.append_ #[22, 3] ty #[.slice (some ⟨g, 0, none⟩) n cap, .int .i64 m]).run Tryd.prog w = .ok (.slice (some ⟨g, 0, none⟩) (n + m) cap) (w.setRow g (cur.toList.take n ++ numL .u8 (fun _ => 0) m ++ cur.toList.drop (n + (numL .u8 (fun _ => 0) m).length)).toArray) := by
          simp [Builtin.append_, run_underlying Tryd.underlying22, run_underlying Tryd.underlying3, sizeOf, typeInfo, zeroValue, hi, hz0, hz1, asInt, asIntOf, hw, hneg, h48i, hm0, hroom, zeroCells_u8, Addr.add_lit, hst]
        refine ⟨_, _, hr, ⟨by rw [numL_len, Nat.mul_one], .inr ⟨g, cap, _, rfl, hb, setRow_heap w g cur _ _ _ hg, hroom, hcm, ?_, ?_⟩⟩, ⟨rfl, rfl, rfl, by simp, fun k _ hk => setRow_other w g k _ (fun e => hk (by simp [Value.ownBlock, e]))⟩, .inl rfl⟩
        · simp only [List.size_toArray, List.length_append, List.length_take, List.length_drop, Array.length_toList, numL_len]
          omega
        · rw [htake, ← numL_cat, Nat.mul_one]
          exact List.take_left' (by rw [List.length_append, numL_len, numL_len])
      · have hold : (Builtin.firstCells i0.size n (.slice (some ⟨g, 0, none⟩) n cap)).run Tryd.prog w.drew = .ok (numL .u8 f n).toArray w.drew :=
          run_firstCells_some (P := Tryd.prog) w.drew i0.size n ⟨g, 0, none⟩ n cap (numL .u8 f n) (by rw [numL_len, hz1, Nat.mul_one]) (hown.cells (g := g) rfl)
        have hr := Lib.run_append_grow_zeros (P := Tryd.prog) w 22 3 ty 5 i0 (.int .u8 0) .i64 .i64 Tryd.underlying22 Tryd.underlying3 hi hz0 (some ⟨g, 0, none⟩) n cap (numL .u8 f n) hold m (by omega) (by rw [hz1]; decide) (by omega) (by omega) (by rw [hz2]; omega) (growslice_fits (by omega) (by rw [hz2]; omega))
        have hge := grownCap_ge w (n + m) cap 5
        refine ⟨_, _, hr, ?_, ⟨rfl, rfl, rfl, by simp, fun k hk _ => heap_alloc_old w.drew _ hk⟩, .inr rfl⟩
        refine ⟨by rw [numL_len, Nat.mul_one], .inr ⟨w.heap.size, _, _, rfl, hB, heap_alloc_new w.drew _, hge, grownCap_le_maxLen w (n + m) cap _ (by unfold maxLen; omega), ?_, ?_⟩⟩
        · rw [Array.size_append, Array.size_append, size_zeroCells, size_zeroCells, List.size_toArray, numL_len]
          show n + m * 1 + _ * 1 = _
          omega
        · rw [zeroCells_u8, zeroCells_u8, Array.toList_append, Array.toList_append, Nat.mul_one]
          show (numL .u8 f n ++ numL .u8 (fun _ => 0) m ++ _).take (n + m) = _
          rw [numL_cat, List.take_append_of_le_length (by rw [numL_len]; exact Nat.le_refl _), List.take_of_length_le (by rw [numL_len]; exact Nat.le_refl _)]

/-- A list of the call's own, as a list somewhere. -/
theorem OwnN.ints {w : World} {B : Nat} {e : TypeId} {k : IntKind} {ao : Option Addr} {n cap : Nat} {f : Nat → Int} (h : OwnN w B e k (.slice ao n cap) n f) : IntsAt w ao n k f := by
  intro i hi
  obtain ⟨g, cap', e1, _, _, _, _⟩ := h.form (by omega)
  cases e1
  exact ⟨g, 0, rfl, by rw [Nat.zero_add]; exact h.cell hi⟩

theorem wpList_cat {w : World} {ops : Array Oper} {rest : List Oper} {o : Oper} {a : Act} {Q : Exit → Act → World → Prop} (hgd : o.guard = none) (s x : Operand)
    (ho : o.op = .call { callee := .builtin .append, args := #[s, x], argTypes := #[22, 22] }) (B : Nat) (v : Value) (n : Nat) (f : Nat → Int) (hs : a.eval s = v) (hown : OwnN w B 5 .u8 v n f) (ao : Option Addr) (m c : Nat) (g : Nat → Int) (hx : a.eval x = .slice ao m c)
    (hg : IntsAt w ao m .u8 g) (hn : n ≤ 1000000) (hm : m ≤ 1000000) (hB : B ≤ w.heap.size)
    (h : ∀ ao' cap' w', OwnN w' B 5 .u8 (.slice ao' (n + m) cap') (n + m) (catF n f g) → w.grownBy w' v.ownBlock → wpList Tryd.prog ops Q rest (a.put o.dst (.slice ao' (n + m) cap')) w') : wpList Tryd.prog ops Q (o :: rest) a w := by
  obtain ⟨v', w', hr, h2, h3, h4⟩ := run_cat w o.type B v n f hown ao m c g hg hn hm hB
  obtain ⟨ao', cap', rfl, _, _, _⟩ := h2.slice
  exact Lib.wpList_append_run w hgd s x 22 22 ho _ _ hs hx _ w' hr (h ao' cap' w' h2 h3)
theorem wpList_zeros {w : World} {ops : Array Oper} {rest : List Oper} {o : Oper} {a : Act} {Q : Exit → Act → World → Prop} (hgd : o.guard = none) (s x : Operand)
    (ho : o.op = .call { callee := .builtin .append, args := #[s, x], argTypes := #[22, 3] }) (B : Nat) (v : Value) (n : Nat) (f : Nat → Int) (hs : a.eval s = v) (hown : OwnN w B 5 .u8 v n f) (m : Nat) (hx : a.eval x = .int .i64 m)
    (hn : n ≤ 1000000) (hm : m ≤ 1000000) (hB : B ≤ w.heap.size)
    (h : ∀ ao' cap' w', OwnN w' B 5 .u8 (.slice ao' (n + m) cap') (n + m) (catF n f fun _ => 0) → w.grownBy w' v.ownBlock → wpList Tryd.prog ops Q rest (a.put o.dst (.slice ao' (n + m) cap')) w') : wpList Tryd.prog ops Q (o :: rest) a w := by
  obtain ⟨v', w', hr, h2, h3, h4⟩ := run_zeros w o.type B v n f hown m hn hm hB
  obtain ⟨ao', cap', rfl, _, _, _⟩ := h2.slice
  exact Lib.wpList_append_run w hgd s x 22 3 ho _ _ hs hx _ w' hr (h ao' cap' w' h2 h3)
end Go.Proofs.YtfgpmdikkncckaaDoor
