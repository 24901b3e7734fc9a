/-
  What Done of package writer makes: the packet in memory of its own, or ErrFull. Nothing that was there is turned.
-/
import Derived.Test.YtohgbdhackmooaaDoorWriterCalls4
import Derived.Laws.CopyOwn
import Derived.OwnWalk
import Derived.Deep.RegionHeld3
import Derived.Laws.Rows
namespace Go.Proofs.YtohgbdhackmooaaDoor
set_option linter.unusedVariables false
open Go.ChangeShapes Go.WideShapes Go.ChangeAt Go.RowKit

theorem u8_info : (Tryd.prog.info? 5).map (fun i => (i.zero, i.size, i.bytes)) = some (some (.int .u8 0), 1, 1) := by kernel_rfl
theorem u8_size : (Tryd.prog.info? 5).map (·.size) = some 1 := by kernel_rfl

theorem done_full (w : World) (b z : Nat) (m : Mo) (hz : z ≤ 1275) (hn : m.nD ≤ 700000) (hk : m.nR ≤ 700000) (hl : m.left z < 0) (hw : Hid (WrAt w b z m)) :
    Calls Tryd.prog 29 #[.pointer (some ⟨b, 0, none⟩)] w fun e w' => e = .returned (.tuple #[.slice none 0 0, .int .i64 4]) ∧ w' = w.drew := by
  obtain ⟨low, f, HI, HW⟩ := hw
  have h3 := HI.ok.n3
  have el : leftF z (m.nD - 3) m.nR = m.left z := by unfold leftF Mo.left; omega
  have hl' : leftF z (m.nD - 3) m.nR < 0 := by rw [el]; exact hl
  clear el
  go_enter Tryd.func29, Tryd.ntmps29
  go_wp2_with (go_at_call 27; refine (left_any _ b z (m.nD - 3) m.nR m.rng low f hz (by omega) (by omega) HW).mono ?_; rintro e w1 ⟨rfl, rfl⟩)
  go_ret2
  exact ⟨rfl, rfl⟩

def bytesL (f : Nat → Int) (n : Nat) : List Value := (List.range n).map fun i => .int .u8 (f i)
theorem bytesL_len (f : Nat → Int) (n : Nat) : (bytesL f n).length = n := by simp [bytesL]
theorem bytesL_at (f : Nat → Int) {n i : Nat} (h : i < n) : (bytesL f n)[i]? = some (.int .u8 (f i)) := by simp [bytesL, h]
theorem bytesL_inv (f : Nat → Int) {n i : Nat} {v : Value} (h : (bytesL f n)[i]? = some v) : i < n ∧ v = .int .u8 (f i) := by
  have hi : i < n := by
    have := (List.getElem?_eq_some_iff.1 h).1
    rw [bytesL_len] at this; exact this
  rw [bytesL_at f hi] at h
  cases h
  exact ⟨hi, rfl⟩
theorem bytesL_one (f : Nat → Int) (n : Nat) : ∀ v ∈ bytesL f n, v.oneCell' = true := by
  intro v hv
  obtain ⟨i, _, rfl⟩ := List.mem_map.1 hv
  rfl
theorem splice_at {α : Type} (L : List α) (off : Nat) (cs : List α) (h : off + cs.length ≤ L.length) (i : Nat) : (splice L off cs)[i]? = if i < off then L[i]? else if i < off + cs.length then cs[i - off]? else L[i]? := by
  unfold splice
  by_cases h1 : i < off
  · rw [if_pos h1, List.getElem?_append_left (by simp; omega), List.getElem?_take, if_pos h1]
  · rw [if_neg h1, List.getElem?_append_right (by simp; omega)]
    have e : min off L.length = off := by omega
    rw [List.length_take, e]
    by_cases h2 : i < off + cs.length
    · rw [if_pos h2, List.getElem?_append_left (by omega)]
    · rw [if_neg h2, List.getElem?_append_right (by omega), List.getElem?_drop]
      congr 1
      omega

theorem splice_len {α : Type} (L : List α) (off : Nat) (cs : List α) (h : off + cs.length ≤ L.length) : (splice L off cs).length = L.length := by
  unfold splice; simp; omega
theorem lt_size_of_block {w : World} {g : Nat} {o : Obj} (h : w.heap[g]? = some o) : g < w.heap.size := (Array.getElem?_eq_some_iff.1 h).1
theorem lit_heap {w : World} {g : Nat} {o : Obj} (h : w.heap[g]? = some o) (hlt : g < w.heap.size) (o' : Obj) : (w.alloc o').drew.heap[g]? = some o := (heap_alloc_old w o' hlt).trans h
theorem lit_one (a b c : Int) : ∀ v ∈ ([.int .u8 a, .int .u8 b, .int .u8 c] : List Value), v.oneCell' = true := by
  intro v hv
  simp only [List.mem_cons, List.not_mem_nil, or_false] at hv
  rcases hv with rfl | rfl | rfl <;> rfl
theorem lit_cells (w : World) (a b c : Value) (t : TypeId) : ∀ (j : Nat) (v : Value), [a, b, c][j]? = some v → (w.alloc (.cells #[a, b, c] t)).drew.cell? (Addr.add ⟨w.heap.size, 0, none⟩ j) = some v := by
  intro j v h
  have hb := heap_alloc_new w (.cells #[a, b, c] t)
  have := cell_of_row (w.alloc (.cells #[a, b, c] t)) w.heap.size j _ _ _ hb
  rw [add_plain, Nat.zero_add]
  show (w.alloc (.cells #[a, b, c] t)).cell? _ = _
  rw [this]
  simpa using h
theorem below_lit {w0 w : World} {B : Nat} (h : Below B w0 w) (hlt : B < w.heap.size) (o : Obj) : Below B w0 (w.alloc o).drew :=
  (h.alloc (Nat.le_of_lt hlt) o).drew

set_option maxRecDepth 20000 in
set_option maxHeartbeats 1000000 in
theorem done_any (w : World) (b z n k : Nat) (r l : Int) (f : Nat → Int) (z0 : (4 : Int) ≤ z) (hz : (z : Int) ≤ 1275) (hn : n + 3 ≤ z) (hk : k ≤ 700000) (l0 : 0 ≤ l) (l1 : l < 16777216) (hl : 0 ≤ leftF z n k) (hw : Hid (WCells w b z r l n k f)) :
    Calls Tryd.prog 29 #[.pointer (some ⟨b, 0, none⟩)] w fun e w' => ∃ g, e = .returned (.tuple #[.slice (some ⟨g, 0, none⟩) z z, .int .i64 0]) ∧ w.heap.size ≤ g ∧ w'.heap[g]? = some (.cells (splice (splice (List.replicate z (.int .u8 0)) 0 (bytesL f z)) n [.int .u8 (l / 65536), .int .u8 (l / 256 % 256), .int .u8 (l % 256)]).toArray 5 (0, 0)) ∧ Below w.heap.size w w' := by
  have h0 := hw.out.c0
  have hb := hw.out.lt
  obtain ⟨i0, hi, hz0, hz1, hz2⟩ := info_parts u8_info
  have hl' : ¬ (leftF z n k < 0) := by omega
  obtain ⟨X, hX⟩ : ∃ X, X = bytesL f z := ⟨_, rfl⟩
  have HX : Hid _ := hX
  clear hX
  go_enter Tryd.func29, Tryd.ntmps29
  go_wp2_with (first | (go_at_call 27; refine (left_any _ b z n k r l f (by omega) (by omega) (by omega) hw).mono ?_; rintro e w1 ⟨rfl, rfl⟩) | (at_make; refine wpList_make_full _ rfl _ _ 22 rfl w.heap.size 5 i0 (.int .u8 0) 1 Tryd.underlying22 hi hz0 hz1 _ _ _ _ z rfl rfl rfl rfl ?m1 ?m2 ?m3 ?m4))
  case m1 => rw [hz2]; omega
  case m2 => unfold maxLen; omega
  case m3 => exact Nat.le_refl _
  case m4 =>
    intro w1 hown hgrow
    have hblk : w1.heap[w.heap.size]? = some (.cells (List.replicate z (.int .u8 0)).toArray 5 (0, 0)) := by
      rcases hown.2 with ⟨h', _⟩ | ⟨g', cap', cur, h', _, hg, _, _, hcs, htake⟩
      · cases h'
      · simp only [Value.slice.injEq, Option.some.injEq, Addr.mk.injEq, and_true, true_and] at h'
        obtain ⟨rfl, rfl⟩ := h'
        rw [hg, toList_madeCells_one, Nat.mul_one] at *
        rw [List.take_of_length_le (by rw [Array.length_toList]; omega)] at htake
        rw [← htake]
    have hB1 : Below w.heap.size w w1 := ⟨hgrow.os, hgrow.tape, hgrow.output, hgrow.size, fun k hk => hgrow.block k hk (by simp)⟩
    obtain ⟨Zs, HZ⟩ : ∃ Zs : List Value, Hid (Zs = List.replicate z (.int .u8 0)) := ⟨_, rfl⟩
    rw [← HZ.out] at hblk
    have HBLK : Hid _ := hblk
    have HB1 : Hid _ := hB1
    have HC1 : Hid (WCells w1 b z r l n k f) := hw.out.kept (grown_below hB1 none) (by simp)
    have lX : X.length = z := by rw [HX.out, bytesL_len]
    have lZ : Zs.length = z := by rw [HZ.out, List.length_replicate]
    have LX : Hid _ := lX
    have LZ : Hid _ := lZ
    clear hown hgrow hblk hB1 lX lZ
    go_wp2_with (refine wpList_copy_splice rfl (.tmp 13) (.tmp 17) 22 22 rfl 5 Tryd.underlying22 u8_size _ _ _ _ _ _ rfl rfl w.heap.size 0 Zs 5 HBLK.out X ?l1 ?l2 ?l3 ?l4 w.heap.size w HB1.out ?l5 ?l6)
    case l1 => rw [LX.out]; exact (Nat.min_eq_right (by omega)).symm
    case l2 =>
      intro _ j v hj
      rw [HX.out] at hj
      obtain ⟨hj1, rfl⟩ := bytesL_inv f hj
      exact HC1.out.ck j (by omega)
    case l3 => rw [LX.out, LZ.out]; omega
    case l4 => rw [HX.out]; exact bytesL_one f z
    case l5 => exact Nat.le_refl _
    case l6 =>
      intro w2 HG2 hB2
      have HC2 : Hid (WCells w2 b z r l n k f) := hw.out.kept (grown_below hB2 none) (by simp)
      have c2 := HC2.out.c2
      have c3 := HC2.out.c3
      have e1 := wrap_u8 (x := l / 65536) (by omega) (by omega)
      have e2 : IntKind.u8.wrap (l / 256) = l / 256 % 256 := by simp [IntKind.wrap, IntKind.bits, IntKind.signed]
      have e3 : IntKind.u8.wrap l = l % 256 := by simp [IntKind.wrap, IntKind.bits, IntKind.signed]
      have nz : (n : Int) ≤ z := by omega
      have nz2 : ¬ (z = n) := by omega
      have nz3 : ¬ ((z : Int) = n) := by omega
      have HB2 : Hid _ := hB2
      clear hB2
      go_wp2
      have HSZ : Hid (w.heap.size < w2.heap.size) := lt_size_of_block HG2.out
      have HMIN : Hid (([.int .u8 (l / 65536), .int .u8 (l / 256 % 256), .int .u8 (l % 256)] : List Value).length = Nat.min 3 (z - n)) := (Nat.min_eq_left (show 3 ≤ z - n by omega)).symm
      have HFIT : Hid (n + ([.int .u8 (l / 65536), .int .u8 (l / 256 % 256), .int .u8 (l % 256)] : List Value).length ≤ (splice Zs 0 X).length) := by
        show _ ≤ _
        rw [splice_len Zs 0 X (by rw [LX.out, LZ.out]; omega), LZ.out]; exact hn
      go_region_held3 (fun w' => w'.cell? ⟨b, 2, none⟩ = some (.int .u32 l) ∧ w'.cell? ⟨b, 3, none⟩ = some (.int .i64 (n : Int))) (first | (exact ⟨d2, d3⟩) | simp [go_sem, c2, c3, HC2.out.lt]) ((refine step_copy_splice rfl (.tmp 24) (.tmp 42) 22 22 rfl 5 Tryd.underlying22 u8_size (some ⟨w.heap.size, n, none⟩) (some ⟨w2.heap.size, 0, none⟩) (z - n) (z - n) 3 3 rfl rfl w.heap.size n (splice Zs 0 X) 5 (lit_heap HG2.out HSZ.out _) [.int .u8 (l / 65536), .int .u8 (l / 256 % 256), .int .u8 (l % 256)] HMIN.out (fun _ => ⟨rfl, _, rfl, lit_cells w2 _ _ _ 5⟩) HFIT.out (lit_one _ _ _) w.heap.size w (below_lit HB2.out HSZ.out _) (Nat.le_refl _) ?_; intro w4 HG4 hb4; have d2 := (hw.out.kept (grown_below hb4 none) (by simp)).c2; have d3 := (hw.out.kept (grown_below hb4 none) (by simp)).c3; replace hb4 : Hid _ := hb4))
      go_wp2
      go_ret2
      refine ⟨_, rfl, Nat.le_refl _, ?_, hb4.out⟩
      rw [HZ.out, HX.out] at HG4
      exact HG4.out

/-- Bytes that lie in a block of their own. -/
def BytesAt (w : World) (g z : Nat) (p : Nat → Int) : Prop := ∃ L : List Value, w.heap[g]? = some (.cells L.toArray 5 (0, 0)) ∧ L.length = z ∧ ∀ i, i < z → L[i]? = some (.int .u8 (p i))
theorem BytesAt.cell {w : World} {g z : Nat} {p : Nat → Int} (h : BytesAt w g z p) {i : Nat} (hi : i < z) : w.cell? ⟨g, i, none⟩ = some (.int .u8 (p i)) := by
  obtain ⟨L, h1, h2, h3⟩ := h
  rw [cell_of_row _ _ i _ _ _ h1]
  simpa using h3 i hi
theorem BytesAt.kept {w w' : World} {g z : Nat} {p : Nat → Int} (h : BytesAt w g z p) (hb : w'.heap[g]? = w.heap[g]?) : BytesAt w' g z p := by
  obtain ⟨L, h1, h2, h3⟩ := h
  exact ⟨L, hb.trans h1, h2, h3⟩
theorem BytesAt.lt {w : World} {g z : Nat} {p : Nat → Int} (h : BytesAt w g z p) : g < w.heap.size := by
  obtain ⟨L, h1, h2, h3⟩ := h
  exact lt_size_of_block h1

theorem done_wr (w : World) (b z : Nat) (m : Mo) (z0 : 4 ≤ z) (hz : z ≤ 1275) (hk : m.nR ≤ 700000) (hl : 0 ≤ m.left z) (hw : Hid (WrAt w b z m)) :
    Calls Tryd.prog 29 #[.pointer (some ⟨b, 0, none⟩)] w fun e w' => ∃ g, e = .returned (.tuple #[.slice (some ⟨g, 0, none⟩) z z, .int .i64 0]) ∧ w.heap.size ≤ g ∧ BytesAt w' g z (m.pk z) ∧ Below w.heap.size w w' := by
  obtain ⟨low, f, HI, HW⟩ := hw
  have h3 := HI.ok.n3
  have el : leftF z (m.nD - 3) m.nR = m.left z := by unfold leftF Mo.left; omega
  have hb := HI.low_bd
  obtain ⟨hp1, hp2⟩ := inv_pk HI hl
  refine (done_any w b z (m.nD - 3) m.nR m.rng low f (by omega) (by omega) (by omega) hk hb.1 hb.2 (by rw [el]; exact hl) HW).mono ?_
  rintro e w' ⟨g, rfl, hg, hc, hB⟩
  have l1 : (splice (List.replicate z (.int .u8 0)) 0 (bytesL f z)).length = z := by
    rw [splice_len _ _ _ (by simp [bytesL_len])]; simp
  refine ⟨g, rfl, hg, ⟨_, hc, ?_, fun i hi => ?_⟩, hB⟩
  · rw [splice_len _ _ _ (by rw [l1]; simp; omega), l1]
  · rw [splice_at _ _ _ (by rw [l1]; simp; omega), hp2 i hi, splice_at _ _ _ (by simp [bytesL_len])]
    simp only [List.length_cons, List.length_nil, bytesL_len, Nat.zero_add, Nat.not_lt_zero, if_false, Nat.sub_zero]
    rw [if_pos hi, bytesL_at f hi]
    by_cases c1 : i < m.nD - 3
    · rw [if_pos c1, if_pos c1]
    · rw [if_neg c1, if_neg c1]
      by_cases c2 : i < m.nD - 3 + 3
      · rw [if_pos (by omega)]
        obtain e | e | e : i = m.nD - 3 ∨ i = m.nD - 2 ∨ i = m.nD - 1 := by omega
        · rw [if_pos e, e, show m.nD - 3 - (m.nD - 3) = 0 by omega]; rfl
        · rw [if_neg (by omega), if_pos e, e, show m.nD - 2 - (m.nD - 3) = 1 by omega]; rfl
        · rw [if_neg (by omega), if_neg (by omega), if_pos e, e, show m.nD - 1 - (m.nD - 3) = 2 by omega]; rfl
      · rw [if_neg (by omega), if_neg (by omega), if_neg (by omega), if_neg (by omega)]

end Go.Proofs.YtohgbdhackmooaaDoor
