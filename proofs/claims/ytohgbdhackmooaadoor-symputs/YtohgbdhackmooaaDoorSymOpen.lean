/-
  Lists of numbers and totals (Ask) in memory, and how one that is handed in is opened. No condition.
-/
import Derived.Test.YtohgbdhackmooaaDoorOpenRows
import Derived.Test.YtohgbdhackmooaaDoorWriterLaws
namespace Go.Proofs.YtohgbdhackmooaaDoor
set_option linter.unusedVariables false
open Go.ChangeShapes Go.WideShapes Go.ChangeAt Go.RowKit Go.Deep

/-- A total and a number. -/
structure Ask where
  t : Int
  v : Int
structure Ask.Ok (a : Ask) : Prop where
  wt : (Lit.int .i64 a.t).wf = true
  wv : (Lit.int .i64 a.v).wf = true
def AsksAt (w : World) (ao : Option Addr) (n : Nat) (f : Nat → Ask) : Prop :=
  ∀ i, i < n → ∃ b off, ao = some ⟨b, off, none⟩ ∧ w.cell? ⟨b, off + i * 2, none⟩ = some (.int .i64 (f i).t) ∧ w.cell? ⟨b, off + i * 2 + 1, none⟩ = some (.int .i64 (f i).v) ∧ (f i).Ok
theorem AsksAt.below {w w' : World} {ao : Option Addr} {n : Nat} {f : Nat → Ask} (h : AsksAt w ao n f) (hb : Below w.heap.size w w') : AsksAt w' ao n f := by
  intro i hi
  obtain ⟨b, off, h1, c0, c1, ho⟩ := h i hi
  have hl : b < w.heap.size := block_lt_of_cell c0
  exact ⟨b, off, h1, by rw [hb.cell hl]; exact c0, by rw [hb.cell hl]; exact c1, ho⟩
theorem Ask.Ok.bd {a : Ask} (h : a.Ok) : (-9223372036854775808 ≤ a.t ∧ a.t ≤ 9223372036854775807) ∧ (-9223372036854775808 ≤ a.v ∧ a.v ≤ 9223372036854775807) := by
  have h1 := h.wt
  have h2 := h.wv
  simp [Lit.wf, IntKind.bits, IntKind.signed, IntKind.min, IntKind.max] at h1 h2
  omega

theorem open_asks {H : Type} {enc : TypeId × Value → H} {W : World} {r : Reach} {base b0 : Nat} {held : Bool} {v : Value} {d : DataW H} {ps : List MemPlace} (hval : Value.okWide Tryd.prog W r b0 23 v)
    (hd : DataW.Trod enc Tryd.prog W base (fun _ => true) held 23 v d ps) :
    ∃ (ao : Option Addr) (n cap : Nat) (f : Nat → Ask), v = .slice ao n cap ∧ n ≤ cap ∧ cap ≤ maxLen ∧ AsksAt W ao n f := by
  obtain ⟨ao, n, cap, f, h1, h2, h3, h4⟩ := open_rows (ks := [.i64, .i64]) Tryd.underlying23 Tryd.underlying32 ⟨rfl, fun j k hk => by
    match j, hk with
    | 0, hk => cases hk; exact ⟨_, rfl, rfl, Tryd.underlying3, by kernel_rfl⟩
    | 1, hk => cases hk; exact ⟨_, rfl, rfl, Tryd.underlying3, by kernel_rfl⟩
    | j + 2, hk => simp at hk⟩ (by decide) (by kernel_rfl) hval hd
  refine ⟨ao, n, cap, fun i => ⟨f i 0, f i 1⟩, h1, h2, h3, fun i hi => ?_⟩
  obtain ⟨b, off, e, hc⟩ := h4 i hi
  have c0 := hc 0 .i64 rfl
  have c1 := hc 1 .i64 rfl
  simp only [List.length_cons, List.length_nil, Nat.zero_add, Nat.add_zero, ← Nat.add_assoc] at c0 c1
  exact ⟨b, off, e, c0.1, c1.1, c0.2, c1.2⟩
end Go.Proofs.YtohgbdhackmooaaDoor
