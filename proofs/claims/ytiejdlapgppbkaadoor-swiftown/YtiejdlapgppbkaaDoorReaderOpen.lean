/-
  Lists of a reader's calls, and bytes, that are handed in: where they lie, and how they are opened. No condition.
-/
import Derived.Test.YtiejdlapgppbkaaDoorOpenRows
import Derived.Test.YtiejdlapgppbkaaDoorReaderCalls3
namespace Go.Proofs.YtiejdlapgppbkaaDoor
set_option linter.unusedVariables false
open Go.ChangeShapes Go.WideShapes Go.ChangeAt Go.RowKit Go.Deep

/-- A call as it is handed in. -/
structure Opr where
  k : Int
  a : Int
  b : Int
  t : Int
structure Opr.Ok (o : Opr) : Prop where
  k0 : 0 ≤ o.k
  k1 : o.k ≤ 255
  wa : (Lit.int .i64 o.a).wf = true
  wb : (Lit.int .i64 o.b).wf = true
  wt : (Lit.int .i64 o.t).wf = true
/-- A list of n calls lies at this address (where there is one of them at all). -/
def OprsAt (w : World) (ao : Option Addr) (n : Nat) (f : Nat → Opr) : Prop :=
  ∀ i, i < n → ∃ b off, ao = some ⟨b, off, none⟩ ∧ w.cell? ⟨b, off + i * 4, none⟩ = some (.int .u8 (f i).k) ∧ w.cell? ⟨b, off + i * 4 + 1, none⟩ = some (.int .i64 (f i).a) ∧ w.cell? ⟨b, off + i * 4 + 2, none⟩ = some (.int .i64 (f i).b) ∧ w.cell? ⟨b, off + i * 4 + 3, none⟩ = some (.int .i64 (f i).t) ∧ (f i).Ok
theorem OprsAt.below {w w' : World} {ao : Option Addr} {n : Nat} {f : Nat → Opr} (h : OprsAt w ao n f) (hb : Below w.heap.size w w') : OprsAt w' ao n f := by
  intro i hi
  obtain ⟨b, off, h1, c0, c1, c2, c3, ho⟩ := h i hi
  have hl : b < w.heap.size := block_lt_of_cell c0
  exact ⟨b, off, h1, by rw [hb.cell hl]; exact c0, by rw [hb.cell hl]; exact c1, by rw [hb.cell hl]; exact c2, by rw [hb.cell hl]; exact c3, ho⟩

theorem open_oprs {H : Type} {enc : TypeId × Value → H} {W : World} {r : Reach} {base b0 : Nat} {held : Bool} {v : Value} {d : DataW H} {ps : List MemPlace} (hval : Value.okWide Tryd.prog W r b0 23 v)
    (hd : DataW.Trod enc Tryd.prog W base (fun _ => true) held 23 v d ps) :
    ∃ (ao : Option Addr) (n cap : Nat) (f : Nat → Opr), v = .slice ao n cap ∧ n ≤ cap ∧ cap ≤ maxLen ∧ OprsAt W ao n f := by
  obtain ⟨ao, n, cap, f, h1, h2, h3, h4⟩ := open_rows (ks := [.u8, .i64, .i64, .i64]) Tryd.underlying23 Tryd.underlying31 ⟨rfl, fun j k hk => by
    match j, hk with
    | 0, hk => cases hk; exact ⟨_, rfl, rfl, Tryd.underlying5, by kernel_rfl⟩
    | 1, hk => cases hk; exact ⟨_, rfl, rfl, Tryd.underlying3, by kernel_rfl⟩
    | 2, hk => cases hk; exact ⟨_, rfl, rfl, Tryd.underlying3, by kernel_rfl⟩
    | 3, hk => cases hk; exact ⟨_, rfl, rfl, Tryd.underlying3, by kernel_rfl⟩
    | j + 4, hk => simp at hk⟩ (by decide) (by kernel_rfl) hval hd
  refine ⟨ao, n, cap, fun i => ⟨f i 0, f i 1, f i 2, f i 3⟩, h1, h2, h3, fun i hi => ?_⟩
  obtain ⟨b, off, e, hc⟩ := h4 i hi
  have c0 := hc 0 .u8 rfl
  have c1 := hc 1 .i64 rfl
  have c2 := hc 2 .i64 rfl
  have c3 := hc 3 .i64 rfl
  simp only [List.length_cons, List.length_nil, Nat.zero_add, Nat.add_zero, ← Nat.add_assoc] at c0 c1 c2 c3
  have b0 : 0 ≤ f i 0 ∧ f i 0 ≤ 255 := by have := c0.2; simp [Lit.wf, IntKind.bits, IntKind.signed, IntKind.min, IntKind.max] at this; omega
  exact ⟨b, off, e, c0.1, c1.1, c2.1, c3.1, b0.1, b0.2, c1.2, c2.2, c3.2⟩

theorem open_bytes {H : Type} {enc : TypeId × Value → H} {W : World} {r : Reach} {base b0 : Nat} {held : Bool} {v : Value} {d : DataW H} {ps : List MemPlace} (hval : Value.okWide Tryd.prog W r b0 22 v)
    (hd : DataW.Trod enc Tryd.prog W base (fun _ => true) held 22 v d ps) :
    ∃ (ao : Option Addr) (n cap : Nat) (p : Nat → Int), v = .slice ao n cap ∧ n ≤ cap ∧ IntsAt W ao n .u8 p ∧ Bx n p := by
  obtain ⟨ao, n, cap, f, h1, h2, h3, h4, h5⟩ := open_ints_at Tryd.underlying22 Tryd.underlying5 (by kernel_rfl) hval hd
  refine ⟨ao, n, cap, fun i => if i < n then f i else 0, h1, h2, fun i hi => ?_, fun i => ?_, fun i hi => if_neg (by omega)⟩
  · obtain ⟨b, off, e, hc⟩ := h4 i hi
    exact ⟨b, off, e, by show _ = some (Value.int .u8 (if i < n then f i else 0)); rw [if_pos hi]; exact hc⟩
  · show 0 ≤ (if i < n then f i else 0) ∧ (if i < n then f i else 0) ≤ 255
    split
    · rename_i hi
      have := h5 i hi
      simp [Lit.wf, IntKind.bits, IntKind.signed, IntKind.min, IntKind.max] at this
      omega
    · exact ⟨Int.le_refl _, by decide⟩
end Go.Proofs.YtiejdlapgppbkaaDoor
