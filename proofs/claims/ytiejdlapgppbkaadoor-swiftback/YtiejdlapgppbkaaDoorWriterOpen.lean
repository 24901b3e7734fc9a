/-
  How a list of calls that is handed in is opened. No condition.
-/
import Derived.Test.YtiejdlapgppbkaaDoorOpenRows
import Derived.Test.YtiejdlapgppbkaaDoorWriterLaws
namespace Go.Proofs.YtiejdlapgppbkaaDoor
set_option linter.unusedVariables false
open Go.ChangeShapes Go.WideShapes Go.ChangeAt Go.RowKit Go.Deep

theorem open_ops {H : Type} {enc : TypeId × Value → H} {W : World} {r : Reach} {base b0 : Nat} {held : Bool} {v : Value} {d : DataW H} {ps : List MemPlace} (hval : Value.okWide Tryd.prog W r b0 45 v)
    (hd : DataW.Trod enc Tryd.prog W base (fun _ => true) held 45 v d ps) :
    ∃ (ao : Option Addr) (n cap : Nat) (f : Nat → Opv), v = .slice ao n cap ∧ n ≤ cap ∧ cap ≤ maxLen ∧ OpsAt W ao n f := by
  obtain ⟨ao, n, cap, f, h1, h2, h3, h4⟩ := open_rows (ks := [.u8, .i64, .i64, .i64, .u32]) Tryd.underlying45 Tryd.underlying51 ⟨rfl, fun j k hk => by
    match j, hk with
    | 0, hk => cases hk; exact ⟨_, rfl, rfl, Tryd.underlying5, by kernel_rfl⟩
    | 1, hk => cases hk; exact ⟨_, rfl, rfl, Tryd.underlying3, by kernel_rfl⟩
    | 2, hk => cases hk; exact ⟨_, rfl, rfl, Tryd.underlying3, by kernel_rfl⟩
    | 3, hk => cases hk; exact ⟨_, rfl, rfl, Tryd.underlying3, by kernel_rfl⟩
    | 4, hk => cases hk; exact ⟨_, rfl, rfl, Tryd.underlying34, by kernel_rfl⟩
    | j + 5, hk => simp at hk⟩ (by decide) (by kernel_rfl) hval hd
  refine ⟨ao, n, cap, fun i => ⟨f i 0, f i 1, f i 2, f i 3, f i 4⟩, h1, h2, h3, fun i hi => ?_⟩
  obtain ⟨b, off, e, hc⟩ := h4 i hi
  have c0 := hc 0 .u8 rfl
  have c1 := hc 1 .i64 rfl
  have c2 := hc 2 .i64 rfl
  have c3 := hc 3 .i64 rfl
  have c4 := hc 4 .u32 rfl
  simp only [List.length_cons, List.length_nil, Nat.zero_add, Nat.add_zero, ← Nat.add_assoc] at c0 c1 c2 c3 c4
  have b0 : 0 ≤ f i 0 ∧ f i 0 ≤ 255 := by have := c0.2; simp [Lit.wf, IntKind.bits, IntKind.signed, IntKind.min, IntKind.max] at this; omega
  have b4 : 0 ≤ f i 4 ∧ f i 4 < 4294967296 := by have := c4.2; simp [Lit.wf, IntKind.bits, IntKind.signed, IntKind.min, IntKind.max] at this; omega
  exact ⟨b, off, e, c0.1, c1.1, c2.1, c3.1, c4.1, b0.1, b0.2, c1.2, c2.2, c3.2, b4.1, b4.2⟩
end Go.Proofs.YtiejdlapgppbkaaDoor
