/-
  How a list of wide numbers that is handed in is opened: nil, or without room, or numbers that lie one behind the other, two words each. No condition.
-/
import Derived.Test.YtmijjhgibbbedaaOpenAcc
import Derived.Test.YtmijjhgibbbedaaWideLaws5
import Derived.Deep.SlicePairs
namespace Go.Proofs.Ytmijjhgibbbedaa
set_option linter.unusedVariables false
open Go.ChangeShapes Go.WideShapes Go.ChangeAt Go.RowKit Go.Deep

theorem open_accs {H : Type} {enc : TypeId × Value → H} {W : World} {r : Reach} {base : Nat} {v : Value} {d : DataW H} {ps : List MemPlace} (hval : Value.okWide Try.prog W r base 49 v)
    (hd : DataW.Trod enc Try.prog W 0 (fun _ => true) true 49 v d ps) :
    v = .slice none 0 0 ∨ (∃ a, v = .slice (some a) 0 0) ∨
    ∃ (b off n cap : Nat) (f : Nat → Int), v = .slice (some ⟨b, off, none⟩) n cap ∧ n ≤ cap ∧ cap ≤ 9223372036854775807 ∧ b < W.heap.size ∧ Lies W (some ⟨b, off, none⟩) n f := by
  obtain ⟨a0, len, cap, rfl⟩ := okWide_slice Try.underlying49 hval
  obtain ⟨fuel, hf⟩ := hd
  rcases open_slice_pairs Try.underlying49 Try.underlying24 acc_cells rfl rfl (by kernel_rfl) (by kernel_rfl) hf with ⟨hcs, _⟩ | ⟨a, len', cap', m, n, V0, V1, D0, D1, P0, P1, hcs, _, hl, hm, hmm, _, hc⟩
  · simp [Value.cells] at hcs
    obtain ⟨rfl, rfl, rfl⟩ := hcs
    exact .inl rfl
  · simp [Value.cells] at hcs
    obtain ⟨rfl, rfl, rfl⟩ := hcs
    simp only [if_true] at hmm
    subst hmm
    right
    by_cases h0 : m = 0
    · subst h0
      left
      have : len = 0 := by omega
      subst this
      exact ⟨a, rfl⟩
    · right
      obtain ⟨b, off, spot⟩ := a
      have h1 := (hc 0 (by omega)).1
      have hspot : spot = none := by simpa [Addr.add] using World.cell?_spot h1
      subst hspot
      have each : ∀ i, i < m → ∃ x : Int, W.cell? ⟨b, off + i * 2, none⟩ = some (.int .i64 (hiW x)) ∧ W.cell? ⟨b, off + i * 2 + 1, none⟩ = some (.int .u64 (loW x)) := by
        intro i hi
        obtain ⟨g0, g1, t0, t1⟩ := hc i hi
        obtain ⟨h, e0, _, wh⟩ := DataW.trod_int Try.underlying2 t0
        obtain ⟨l, e1, _, wl⟩ := DataW.trod_int Try.underlying22 t1
        simp at e0 e1
        have b0 := bounds_i64 wh
        have b1 := bounds_u64 wl
        refine ⟨h * 18446744073709551616 + l, ?_, ?_⟩
        · rw [hiW_of b0.1 b0.2 b1.1 b1.2, ← e0, ← Go.WideShapes.add_plain]; exact g0
        · rw [loW_of b1.1 b1.2, ← e1, Nat.add_assoc, ← Go.WideShapes.add_plain]; exact g1
      obtain ⟨f, hF⟩ := choose_lt each
      refine ⟨b, off, len, m, f, rfl, hl, hm, ?_, fun i hi => ⟨b, off, rfl, (hF i (by omega)).1, (hF i (by omega)).2⟩⟩
      exact block_lt_of_cell (a := ⟨b, off + 0 * 2, none⟩) ((hF 0 (by omega)).1)
end Go.Proofs.Ytmijjhgibbbedaa
