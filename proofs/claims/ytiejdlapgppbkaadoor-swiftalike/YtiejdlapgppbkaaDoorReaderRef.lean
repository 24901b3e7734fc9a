/-
  What the document's own reader (spinetref07) does: byte, New, Get, Take, Raw, Left. Nothing is turned but its own block.
-/
import Derived.Test.YtiejdlapgppbkaaDoorReaderOpen
namespace Go.Proofs.YtiejdlapgppbkaaDoor
set_option linter.unusedVariables false
open Go.ChangeShapes Go.WideShapes Go.ChangeAt Go.RowKit

/-- n integers lie at this address, in a block below B. -/
def IntsUnder (w : World) (B : Nat) (ao : Option Addr) (n : Nat) (k : IntKind) (f : Nat → Int) : Prop :=
  ∀ i, i < n → ∃ b off, ao = some ⟨b, off, none⟩ ∧ b < B ∧ w.cell? ⟨b, off + i, none⟩ = some (.int k (f i))
theorem IntsAt.under {w : World} {ao : Option Addr} {n : Nat} {k : IntKind} {f : Nat → Int} (h : IntsAt w ao n k f) : IntsUnder w w.heap.size ao n k f := by
  intro i hi
  obtain ⟨b, off, h1, h2⟩ := h i hi
  exact ⟨b, off, h1, block_lt_of_cell h2, h2⟩
theorem IntsUnder.kept {w w' : World} {B : Nat} {ao : Option Addr} {n : Nat} {k : IntKind} {f : Nat → Int} {row : Option Nat} (h : IntsUnder w B ao n k f) (hg : w.grownBy w' row) (hr : ∀ q, row = some q → B ≤ q) : IntsUnder w' B ao n k f := by
  intro i hi
  obtain ⟨b, off, h1, h2, h3⟩ := h i hi
  exact ⟨b, off, h1, h2, hg.cell h3 (by intro e; have := hr b e.symm; omega)⟩
theorem IntsUnder.below {w w' : World} {B : Nat} {ao : Option Addr} {n : Nat} {k : IntKind} {f : Nat → Int} (h : IntsUnder w B ao n k f) (hg : Below B w w') : IntsUnder w' B ao n k f := by
  intro i hi
  obtain ⟨b, off, h1, h2, h3⟩ := h i hi
  exact ⟨b, off, h1, h2, by rw [hg.cell h2]; exact h3⟩

/-- The document's reader of n bytes p lies at block b, and is m; its bytes lie below B. -/
structure Rf (w : World) (B b : Nat) (ao : Option Addr) (n cap : Nat) (p : Nat → Int) (m : Re) : Prop where
  row : w.heap[b]? = some (.cells #[.slice ao n cap, .int .i64 m.tk, .int .i64 m.nb, .int .i64 m.rng, .int .i64 m.val] 39 (0, 0))
  bB : B ≤ b
  i : IntsUnder w B ao n .u8 p
section
variable {w w' : World} {B b n cap : Nat} {ao : Option Addr} {p : Nat → Int} {m : Re}
theorem Rf.lt (h : Rf w B b ao n cap p m) : b < w.heap.size := lt_size_of_block h.row
theorem Rf.c0 (h : Rf w B b ao n cap p m) : w.cell? ⟨b, 0, none⟩ = some (.slice ao n cap) := row_cell h.row 0 rfl
theorem Rf.c1 (h : Rf w B b ao n cap p m) : w.cell? ⟨b, 1, none⟩ = some (.int .i64 m.tk) := row_cell h.row 1 rfl
theorem Rf.c2 (h : Rf w B b ao n cap p m) : w.cell? ⟨b, 2, none⟩ = some (.int .i64 m.nb) := row_cell h.row 2 rfl
theorem Rf.c3 (h : Rf w B b ao n cap p m) : w.cell? ⟨b, 3, none⟩ = some (.int .i64 m.rng) := row_cell h.row 3 rfl
theorem Rf.c4 (h : Rf w B b ao n cap p m) : w.cell? ⟨b, 4, none⟩ = some (.int .i64 m.val) := row_cell h.row 4 rfl
theorem Rf.fz (h : Rf w B b ao n cap p m) (o : Nat) : w.frozen? ⟨b, o, none⟩ = false := frozen_of_row _ _ o _ _ h.row
theorem Rf.kept {row : Option Nat} (h : Rf w B b ao n cap p m) (hg : w.grownBy w' row) (hr : ∀ q, row = some q → B ≤ q ∧ q ≠ b) : Rf w' B b ao n cap p m :=
  ⟨(hg.block b h.lt (fun e => (hr b e.symm).2 rfl)).trans h.row, h.bB, h.i.kept hg (fun q e => (hr q e).1)⟩
theorem Rf.ii (h : Rf w B b ao n cap p m) (o : Nat) (u : Value) : IntsUnder (w.setCell ⟨b, o, none⟩ u) B ao n .u8 p := h.i.kept (grown_setb w b o u) (by intro q e; cases e; exact h.bB)
theorem Rf.set1 (h : Rf w B b ao n cap p m) (y : Nat) : Rf (w.setCell ⟨b, 1, none⟩ (.int .i64 y)) B b ao n cap p { m with tk := y } := ⟨heap_set_row h.row, h.bB, h.ii _ _⟩
theorem Rf.set2 (h : Rf w B b ao n cap p m) (y : Nat) : Rf (w.setCell ⟨b, 2, none⟩ (.int .i64 y)) B b ao n cap p { m with nb := y } := ⟨heap_set_row h.row, h.bB, h.ii _ _⟩
theorem Rf.set3 (h : Rf w B b ao n cap p m) (y : Int) : Rf (w.setCell ⟨b, 3, none⟩ (.int .i64 y)) B b ao n cap p { m with rng := y } := ⟨heap_set_row h.row, h.bB, h.ii _ _⟩
theorem Rf.set4 (h : Rf w B b ao n cap p m) (y : Int) : Rf (w.setCell ⟨b, 4, none⟩ (.int .i64 y)) B b ao n cap p { m with val := y } := ⟨heap_set_row h.row, h.bB, h.ii _ _⟩
theorem Rf.drew (h : Rf w B b ao n cap p m) : Rf w.drew B b ao n cap p m := h.kept (grown_drew (grown_refl w none)) (by intro q e; cases e)
theorem Rf.keep (h : Rf w B b ao n cap p m) (hg : w.grownBy w' none) : Rf w' B b ao n cap p m := h.kept hg (by intro q e; cases e)
end
theorem wrap_i64 {x : Int} (h0 : -9223372036854775808 ≤ x) (h1 : x ≤ 9223372036854775807) : IntKind.i64.wrap x = x := by simp [IntKind.wrap, IntKind.bits, IntKind.signed]; omega
theorem block_alt {w w' : World} {row : Option Nat} (h : w.grownBy w' row) : w.heap.size ≤ w'.heap.size := h.size

theorem rbyte (w : World) (B b : Nat) (ao : Option Addr) (n cap : Nat) (p : Nat → Int) (m : Re) (i : Nat) (hn : n ≤ 100000) (hi : i ≤ 900000) (hp : Hid (Bx n p)) (h : Hid (Rf w B b ao n cap p m)) :
    Calls Tryd.prog 37 #[.pointer (some ⟨b, 0, none⟩), .int .i64 i] w fun e w' => e = .returned (.int .i64 (p i)) ∧ w' = w := by
  have h0 := h.out.c0
  have ii : (i : Int) ≤ 900000 := by omega
  have ni : (n : Int) ≤ 100000 := by omega
  have i0 : ¬ ((i : Int) < 0) := by omega
  have hb := hp.out.b i
  have e1 : IntKind.i64.wrap (p i) = p i := by simp [IntKind.wrap, IntKind.bits, IntKind.signed]; omega
  by_cases hin : i < n
  · have hin' : (i : Int) < n := by omega
    have hin2 : ¬ ((n : Int) ≤ i) := by omega
    obtain ⟨g, off, rfl, _, cc⟩ := h.out.i i hin
    go_enter Tryd.func37, Tryd.ntmps37
    go_wp2
    go_ret
    exact ⟨rfl, rfl⟩
  · have hin' : (n : Int) ≤ i := by omega
    have e0 : p i = 0 := hp.out.z i (by omega)
    rw [e0]
    go_enter Tryd.func37, Tryd.ntmps37
    go_wp2
    go_ret
    exact ⟨rfl, rfl⟩
theorem rbyte_neg (w : World) (b : Nat) (i : Int) (hi : i < 0) :
    Calls Tryd.prog 37 #[.pointer (some ⟨b, 0, none⟩), .int .i64 i] w fun e w' => e = .returned (.int .i64 0) ∧ w' = w := by
  go_enter Tryd.func37, Tryd.ntmps37
  go_wp2
  go_ret
  exact ⟨rfl, rfl⟩

theorem rfleft (w : World) (B b : Nat) (ao : Option Addr) (n cap : Nat) (p : Nat → Int) (m : Re) (hn : n ≤ 100000) (hk : m.tk ≤ 900000) (hl : m.nb ≤ 900000) (h : Hid (Rf w B b ao n cap p m)) :
    Calls Tryd.prog 19 #[.pointer (some ⟨b, 0, none⟩)] w fun e w' => e = .returned (.int .i64 (m.left n)) ∧ w' = w.drew := by
  have h0 := h.out.c0
  have h1 := h.out.c1
  have h2 := h.out.c2
  have ni : (n : Int) ≤ 100000 := by omega
  have ki : (m.tk : Int) ≤ 900000 := by omega
  have li : (m.nb : Int) ≤ 900000 := by omega
  unfold Re.left
  go_enter Tryd.func19, Tryd.ntmps19
  go_wp2
  go_region
  go_wp2
  go_ret
  exact ⟨rfl, rfl⟩

theorem rfget (w : World) (B b : Nat) (ao : Option Addr) (n cap : Nat) (p : Nat → Int) (m : Re) (t : Int) (hg : Hid m.Good) (h : Hid (Rf w B b ao n cap p m)) :
    Calls Tryd.prog 13 #[.pointer (some ⟨b, 0, none⟩), .int .i64 t] w fun e w' => e = .returned (.int .i64 (m.getU t)) ∧ ∃ q, w' = w.drewN q := by
  have h3 := h.out.c3
  have h4 := h.out.c4
  unfold Re.getU
  by_cases ht : 1 ≤ t
  · by_cases ht2 : t ≤ 4096
    · rw [if_pos ⟨ht, ht2⟩]
      obtain ⟨g0, g1, g2⟩ := get_bd hg.out ht ht2
      have r1 := hg.out.r1
      have r2 := hg.out.r2
      have v0 := hg.out.v0
      have v1 := hg.out.v1
      have e1 : m.rng.tdiv t = m.rng / t := Int.tdiv_eq_ediv_of_nonneg (by omega)
      have e2 : m.val.tdiv (m.rng / t) = m.val / (m.rng / t) := Int.tdiv_eq_ediv_of_nonneg v0
      have q0 : 0 ≤ m.val / (m.rng / t) := Int.ediv_nonneg v0 (by omega)
      have q1 : m.val / (m.rng / t) ≤ m.val := Int.ediv_le_self _ v0
      have q2 : m.rng / t ≤ m.rng := Int.ediv_le_self _ (by omega)
      unfold Re.get at *
      generalize m.rng / t = q at *
      generalize m.val / q = s at *
      have w2 : IntKind.i64.wrap q = q := by simp [IntKind.wrap, IntKind.bits, IntKind.signed]; omega
      have w3 : IntKind.i64.wrap s = s := by simp [IntKind.wrap, IntKind.bits, IntKind.signed]; omega
      have n1 : ¬ (t = 0) := by omega
      have n2 : ¬ (q = 0) := by omega
      by_cases hs : t - 1 < s
      · rw [if_pos hs]
        go_enter Tryd.func13, Tryd.ntmps13
        go_wp2
        go_quiet (fail)
        go_wp2
        go_ret
        exact ⟨rfl, _, rfl⟩
      · rw [if_neg hs]
        have hs' : s ≤ t - 1 := by omega
        go_enter Tryd.func13, Tryd.ntmps13
        go_wp2
        go_quiet (fail)
        go_wp2
        go_ret
        exact ⟨rfl, _, rfl⟩
    · rw [if_neg (by omega)]
      have ht3 : 4096 < t := by omega
      go_enter Tryd.func13, Tryd.ntmps13
      go_wp2
      go_ret
      exact ⟨rfl, 0, rfl⟩
  · rw [if_neg (by omega)]
    have ht3 : t < 1 := by omega
    go_enter Tryd.func13, Tryd.ntmps13
    go_wp2
    go_ret
    exact ⟨rfl, 0, rfl⟩

theorem rfnew (w : World) (ao : Option Addr) (n cap : Nat) (p : Nat → Int) (hn : n ≤ 100000) (B : Nat) (hB : B ≤ w.heap.size) (hp : Hid (Bx n p)) (hi : Hid (IntsUnder w B ao n .u8 p)) :
    Calls Tryd.prog 34 #[.slice ao n cap] w fun e w' => e = .returned (.pointer (some ⟨w.heap.size, 0, none⟩)) ∧ Rf w' B w.heap.size ao n cap p (Re.new p) ∧ Below w.heap.size w w' := by
  have b0 := hp.out.b 0
  have b1 := hp.out.b 1
  have b2 := hp.out.b 2
  have HR : Hid (Rf (w.alloc (.cells #[.slice ao n cap, .int .i64 3, .int .i64 0, .int .i64 16777216, .int .i64 0] 39)) B w.heap.size ao n cap p ⟨16777216, 0, 3, 0⟩) := ⟨heap_alloc_new w _, hB, hi.out.kept (World.grownBy_alloc w _ none) (by intro q e; cases e)⟩
  have fz := HR.out.fz
  go_enter Tryd.func34, Tryd.ntmps34
  go_wp2_with fail
  refine (show Calls Tryd.prog 37 #[.pointer (some ⟨w.heap.size, 0, none⟩), .int .i64 0] _ _ from (rbyte _ B w.heap.size ao n cap p ⟨16777216, 0, 3, 0⟩ 0 hn (by decide) hp HR).mono ?_)
  rintro e w5 ⟨rfl, rfl⟩
  go_wp2_with fail
  refine (show Calls Tryd.prog 37 #[.pointer (some ⟨w.heap.size, 0, none⟩), .int .i64 1] _ _ from (rbyte _ B w.heap.size ao n cap p ⟨16777216, 0, 3, 0⟩ 1 hn (by decide) hp HR).mono ?_)
  rintro e w5 ⟨rfl, rfl⟩
  go_wp2_with fail
  refine (show Calls Tryd.prog 37 #[.pointer (some ⟨w.heap.size, 0, none⟩), .int .i64 2] _ _ from (rbyte _ B w.heap.size ao n cap p ⟨16777216, 0, 3, 0⟩ 2 hn (by decide) hp HR).mono ?_)
  rintro e w5 ⟨rfl, rfl⟩
  go_wp2
  go_ret
  exact ⟨rfl, ⟨heap_alloc_new w _, hB, hi.out.kept (World.grownBy_alloc w _ none) (by intro q e; cases e)⟩, (Below.refl _ _).alloc (Nat.le_refl _) _⟩

theorem wide_grow {s : Re} {p : Nat → Int} (h1 : 1 < s.rng) (h2 : s.rng ≤ 65536) : (s.grow p).wide p = s.wide p := by
  have e : (s.grow p).rng = s.rng * 256 := rfl
  unfold Re.wide
  rw [e]
  by_cases h : s.rng ≤ 256
  · rw [if_pos h, if_neg (by omega), if_pos (by omega)]
  · rw [if_neg h, if_pos h2, if_neg (by omega), if_neg (by omega)]
def rngOf (w : World) (b : Nat) : Nat := match w.cell? ⟨b, 3, none⟩ with
  | some (.int _ r) => (65537 - r).toNat
  | _ => 0
theorem rngOf_at {w : World} {B b n cap : Nat} {ao : Option Addr} {p : Nat → Int} {m : Re} (h : Rf w B b ao n cap p m) : rngOf w b = (65537 - m.rng).toNat := by
  unfold rngOf; rw [h.c3]


end Go.Proofs.YtiejdlapgppbkaaDoor
