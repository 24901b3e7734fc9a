/-
  What keep, Reset and New of package swift make of a block of a swift reader's form: a swift reader of these bytes, whatever it was. Nothing else that was there is turned.
-/
import Derived.Test.YtiejdlapgppbkaaDoorSwiftCalls3
namespace Go.Proofs.YtiejdlapgppbkaaDoor
set_option linter.unusedVariables false
open Go.ChangeShapes Go.WideShapes Go.ChangeAt Go.RowKit

theorem IntsAt.setb {w : World} {ao : Option Addr} {n : Nat} {k : IntKind} {f : Nat → Int} (h : IntsAt w ao n k f) {b : Nat} (hne : ∀ ad, 0 < n → ao = some ad → ad.block ≠ b) (o : Nat) (u : Value) : IntsAt (w.setCell ⟨b, o, none⟩ u) ao n k f := by
  intro i hi
  obtain ⟨c, off, rfl, hc⟩ := h i hi
  have hb := hne _ (by omega) rfl
  exact ⟨c, off, rfl, (World.cell?_setCell_other _ _ _ _ (by intro e; cases e; exact hb rfl)).trans hc⟩

/-- Bytes that are copied into the block. -/
theorem copied {w : World} {b : Nat} {L : List Value} (hL : w.heap[b]? = some (.cells L.toArray 59 (0, 0))) (hl : L.length = 1281) (cs : List Value) (hcs : cs.length ≤ 1275) :
    SRaw (w.setRow b (splice L 5 cs).toArray) b ∧ (∀ o, o < 5 ∨ 5 + cs.length ≤ o → (w.setRow b (splice L 5 cs).toArray).cell? ⟨b, o, none⟩ = w.cell? ⟨b, o, none⟩) ∧ (∀ i, i < cs.length → (w.setRow b (splice L 5 cs).toArray).cell? ⟨b, 5 + i, none⟩ = cs[i]?) ∧ w.grownBy (w.setRow b (splice L 5 cs).toArray) (some b) := by
  have hr := setRow_heap w b L.toArray (splice L 5 cs).toArray _ _ hL
  refine ⟨⟨_, hr, by rw [splice_len _ _ _ (by omega)]; exact hl⟩, fun o ho => ?_, fun i hi => ?_, ⟨rfl, rfl, rfl, by simp, fun k _ hk => setRow_other w b k _ (fun e => hk (by rw [e]))⟩⟩
  · rw [cell_of_row _ _ o _ _ _ hr, cell_of_row _ _ o _ _ _ hL, List.getElem?_toArray, List.getElem?_toArray, splice_at _ _ _ (by omega)]
    by_cases c : o < 5
    · rw [if_pos c]
    · rw [if_neg c, if_neg (by omega)]
  · rw [cell_of_row _ _ (5 + i) _ _ _ hr, List.getElem?_toArray, splice_at _ _ _ (by omega), if_neg (by omega), if_pos (by omega), show 5 + i - 5 = i by omega]

set_option maxRecDepth 20000 in
theorem skeep (w : World) (lo b : Nat) (ao : Option Addr) (n cap : Nat) (p : Nat → Int) (hn : n ≤ 100000) (hb0 : lo ≤ b) (ht0 : 0 < lo) (hT : Hid (Tz w)) (h : Hid (SRaw w b)) (hI : Hid (IntsAt w ao n .u8 p)) (hne : Hid (∀ ad, 0 < n → ao = some ad → ad.block ≠ b)) :
    Calls Tryd.prog 43 #[.pointer (some ⟨b, 0, none⟩), .slice ao n cap] w fun e w' => e = .returned (.tuple #[]) ∧ (∃ v, SKept w' lo w'.heap.size b v n p) ∧ w.grownBy w' (some b) := by
  have fz := h.out.fz
  obtain ⟨y0, c0⟩ := h.out.val (o := 0) (by decide)
  obtain ⟨y6, c6⟩ := h.out.val (o := 1280) (by decide)
  have lt := h.out.lt
  have HRA : Hid (SRaw ((w.setCell ⟨b, 0, none⟩ (.int .i64 n)).setCell ⟨b, 1280, none⟩ (.slice none 0 0)) b) := (h.out.set _ _).set _ _
  have HIA : Hid (IntsAt ((w.setCell ⟨b, 0, none⟩ (.int .i64 n)).setCell ⟨b, 1280, none⟩ (.slice none 0 0)) ao n .u8 p) := (hI.out.setb hne.out _ _).setb hne.out _ _
  have HGA : Hid (w.grownBy ((w.setCell ⟨b, 0, none⟩ (.int .i64 n)).setCell ⟨b, 1280, none⟩ (.slice none 0 0)) (some b)) := grown_set (grown_set (grown_refl _ _) _) _
  have HTA : Hid (Tz ((w.setCell ⟨b, 0, none⟩ (.int .i64 n)).setCell ⟨b, 1280, none⟩ (.slice none 0 0))) := hT.out.kept HGA.out (by intro e; cases e; omega)
  have HC0 : Hid (((w.setCell ⟨b, 0, none⟩ (.int .i64 n)).setCell ⟨b, 1280, none⟩ (.slice none 0 0)).cell? ⟨b, 0, none⟩ = some (.int .i64 n)) := cell_off (World.cell?_setCell_same _ _ _ c0) (by decide)
  have HC6 : Hid (((w.setCell ⟨b, 0, none⟩ (.int .i64 n)).setCell ⟨b, 1280, none⟩ (.slice none 0 0)).cell? ⟨b, 1280, none⟩ = some (.slice none 0 0)) := World.cell?_setCell_same _ _ _ (cell_off c6 (by decide))
  by_cases c : n ≤ 1275
  · have c' : ¬ (1275 < (n : Int)) := by omega
    by_cases n0 : n = 0
    · subst n0
      go_enter Tryd.func43, Tryd.ntmps43
      go_wp2_with (refine wpList_copy_nothing rfl (.tmp 23) (.tmp 24) 22 22 rfl 5 Tryd.underlying22 u8_size _ _ _ _ _ _ rfl rfl rfl ?_)
      go_end0
      refine ⟨rfl, ⟨.slice none 0 0, HRA.out, HC0.out, HC6.out, fun _ i hi => absurd hi (by omega), fun hh => absurd hh (by omega), hb0, HRA.out.lt, fun hh => absurd hh (by omega), HTA.out, ht0⟩, HGA.out⟩
    · obtain ⟨L, hL, hl⟩ := HRA.out
      obtain ⟨cb, off, rfl, _⟩ := hI.out 0 (by omega)
      obtain ⟨k1, k2, k3, k4⟩ := copied hL hl (numL .u8 p n) (by rw [numL_len]; exact c)
      have HL : Hid _ := hL
      have H1 : Hid _ := k1
      have H2 : Hid _ := k2
      have H3 : Hid _ := k3
      have H4 : Hid _ := k4
      clear hL k1 k2 k3 k4
      go_enter Tryd.func43, Tryd.ntmps43
      go_wp2_with (refine wpList_copy_own rfl (.tmp 23) (.tmp 24) 22 22 rfl 5 Tryd.underlying22 u8_size b 5 1275 1275 ⟨cb, off, none⟩ n cap rfl rfl L.toArray 59 HL.out (numL .u8 p n) (by rw [numL_len]; exact (Nat.min_eq_left c).symm) HIA.out.news (by rw [numL_len]; simp only [List.size_toArray]; omega) (numL_ones _ _ _) ?_)
      go_end0
      refine ⟨rfl, ⟨.slice none 0 0, ?_⟩, grown_trans HGA.out H4.out⟩
      exact ⟨H1.out, (H2.out 0 (.inl (by decide))).trans HC0.out, (H2.out 1280 (.inr (by rw [numL_len]; omega))).trans HC6.out, fun _ i hi => (H3.out i (by rw [numL_len]; exact hi)).trans (numL_at .u8 p hi), fun hh => absurd hh (by omega), hb0, SRaw.lt H1.out, fun hh => absurd hh (by omega), HTA.out.kept H4.out (by intro e; cases e; omega), ht0⟩
  · have c' : 1275 < (n : Int) := by omega
    go_enter Tryd.func43, Tryd.ntmps43
    go_wp2_with (go_at_call 39; refine (clone_any _ ao n cap p hn HIA).mono ?_; rintro e w1 ⟨ao', cap', rfl, HO, HB⟩; have fz1 := (SRaw.kept HRA.out (grown_below HB none) (by simp)).fz; obtain ⟨y1, c61⟩ := (SRaw.kept HRA.out (grown_below HB none) (by simp)).val (o := 1280) (by decide); replace HO : Hid (OwnN w1 ((w.setCell ⟨b, 0, none⟩ (.int .i64 n)).setCell ⟨b, 1280, none⟩ (.slice none 0 0)).heap.size 5 .u8 (.slice ao' n cap') n p) := HO; replace HB : Hid _ := HB)
    refine bodyPost_ret (results_none rfl _ _ _) rfl ?_
    generalize (w.setCell ⟨b, 0, none⟩ (.int .i64 n)).setCell ⟨b, 1280, none⟩ (.slice none 0 0) = wA at *
    have hltA := HRA.out.lt
    have hR1 : SRaw w1 b := HRA.out.kept (grown_below HB.out none) (by simp)
    have hsz : (w1.setCell ⟨b, 1280, none⟩ (.slice ao' n cap')).heap.size = w1.heap.size := by simp [World.setCell]
    have hob : ∀ g, Value.ownBlock (.slice ao' n cap') = some g → wA.heap.size ≤ g ∧ g < w1.heap.size := fun g hg => HO.out.lt hg
    refine ⟨rfl, ⟨.slice ao' n cap', hR1.set _ _, cell_off ((HB.out.cell hltA).trans HC0.out) (by decide), World.cell?_setCell_same _ _ _ c61, fun hh => absurd hh (by omega), fun _ => (HO.out.kept (grown_setb w1 b 1280 _) ?_).mono (by omega), hb0, (hR1.set _ _).lt, fun _ g hg => ?_, (HTA.out.below HB.out).kept (grown_setb w1 b 1280 _) (by intro e; cases e; omega), ht0⟩, grown_set (grown_trans HGA.out (grown_below HB.out _)) _⟩
    · cases hv : Value.ownBlock (.slice ao' n cap') with
      | none => exact .inl rfl
      | some g => right; intro e; cases e; have := (hob _ hv).1; omega
    · rw [hsz]
      have := hob g hg
      exact ⟨this.2, by omega⟩

theorem SCells.more {w : World} {lo hi hi' b n k l : Nat} {v : Value} {p : Nat → Int} {r x : Int} (h : SCells w lo hi b v n p r x k l) (hh : hi ≤ hi') : SCells w lo hi' b v n p r x k l :=
  ⟨⟨h.kp.row, h.kp.c0, h.kp.c6, h.kp.sm, h.kp.bg, h.kp.b0, Nat.lt_of_lt_of_le h.kp.b1 hh, fun hn g hg => ⟨Nat.lt_of_lt_of_le (h.kp.vh hn g hg).1 hh, (h.kp.vh hn g hg).2⟩, h.kp.tz, h.kp.t0⟩, h.c1, h.c2, h.c3, h.c4⟩

set_option maxRecDepth 20000 in
theorem swreset (w : World) (lo b : Nat) (ao : Option Addr) (n cap : Nat) (p : Nat → Int) (hn : n ≤ 100000) (hb0 : lo ≤ b) (ht0 : 0 < lo) (hp : Hid (Bx n p)) (hT : Hid (Tz w)) (h : Hid (SRaw w b)) (hI : Hid (IntsAt w ao n .u8 p)) (hne : Hid (∀ ad, 0 < n → ao = some ad → ad.block ≠ b)) :
    Calls Tryd.prog 27 #[.pointer (some ⟨b, 0, none⟩), .slice ao n cap] w fun e w' => e = .returned (.tuple #[]) ∧ SwAt w' lo w'.heap.size b n p (Re.new p) ∧ w.grownBy w' (some b) := by
  have p0 := hp.out.b 0
  have p1 := hp.out.b 1
  go_enter Tryd.func27, Tryd.ntmps27
  go_wp2_with (go_at_call 43; refine (skeep _ lo b ao n cap p hn hb0 ht0 hT h hI hne).mono ?_; rintro e w1 ⟨rfl, ⟨v, HK⟩, HG⟩; have fz1 := HK.row.fz; obtain ⟨y1, c1⟩ := HK.row.val (o := 1) (by decide); obtain ⟨y2, c2⟩ := HK.row.val (o := 2) (by decide); obtain ⟨y3, c3⟩ := HK.row.val (o := 3) (by decide); obtain ⟨y4, c4⟩ := HK.row.val (o := 4) (by decide); replace HK : Hid (SKept w1 lo w1.heap.size b v n p) := HK; replace HG : Hid (w.grownBy w1 (some b)) := HG)
  have HC : Hid (SCells ((((w1.setCell ⟨b, 1, none⟩ (.int .u32 16777216)).setCell ⟨b, 2, none⟩ (.int .u32 0)).setCell ⟨b, 3, none⟩ (.int .i64 0)).setCell ⟨b, 4, none⟩ (.int .i64 0)) lo w1.heap.size b v n p 16777216 0 0 0) :=
    ⟨(((HK.out.set 1 _ (by decide) (by decide)).set 2 _ (by decide) (by decide)).set 3 _ (by decide) (by decide)).set 4 _ (by decide) (by decide),
     cell_off (cell_off (cell_off (World.cell?_setCell_same _ _ _ c1) (by decide)) (by decide)) (by decide), cell_off (cell_off (World.cell?_setCell_same _ _ _ (cell_off c2 (by decide))) (by decide)) (by decide),
     cell_off (World.cell?_setCell_same _ _ _ (cell_off (cell_off c3 (by decide)) (by decide))) (by decide), World.cell?_setCell_same _ _ _ (cell_off (cell_off (cell_off c4 (by decide)) (by decide)) (by decide))⟩
  refine (sshift2 _ lo w1.heap.size b v n p 16777216 0 0 0 hn (by decide) (by decide) (by decide) hp HC).mono ?_
  rintro e w2 ⟨rfl, HC2, HB2⟩
  rw [show ((0 : Int) * 256 + p 0) * 256 + p (0 + 1) = p 0 * 256 + p 1 by simp] at HC2
  replace HC2 : Hid (SCells w2 lo w1.heap.size b v n p 16777216 (p 0 * 256 + p 1) 2 0) := HC2
  replace HB2 : Hid _ := HB2
  go_wp2_with fail
  refine (sshift1 _ lo w1.heap.size b v n p 16777216 (p 0 * 256 + p 1) 2 0 hn (by decide) (by omega) (by omega) hp HC2).mono ?_
  rintro e w3 ⟨rfl, HC3, HB3⟩
  replace HC3 : Hid (SCells w3 lo w1.heap.size b v n p 16777216 ((p 0 * 256 + p 1) * 256 + p 2) 3 0) := HC3
  replace HB3 : Hid _ := HB3
  go_wp2
  go_end0
  have g2 : w1.grownBy w3 (some b) := grown_trans (grown_trans (grown_set (grown_set (grown_set (grown_set (grown_refl _ _) _) _) _) _) HB2.out) HB3.out
  refine ⟨rfl, ⟨v, ?_⟩, grown_trans HG.out g2⟩
  have e : (Re.new p).val = (p 0 * 256 + p 1) * 256 + p 2 := by show p 0 * 65536 + p 1 * 256 + p 2 = _; omega
  rw [e]
  exact HC3.out.more g2.size

def szeroB : Value → Bool
  | .agg cs => decide (cs.size = 1281)
  | _ => false
theorem szero_info : ((Tryd.prog.info? 59).bind (fun i => i.zero)).map szeroB = some true := by kernel_rfl
theorem szero_run : ∃ Z : Array Value, (∀ w, Sem.run Tryd.prog (zeroValue 59) w = .ok (.agg Z) w) ∧ Z.size = 1281 := by
  have h := szero_info
  cases hi : Tryd.prog.info? 59 with
  | none => rw [hi] at h; cases h
  | some i =>
    rw [hi] at h
    cases hz : i.zero with
    | none => simp [hz] at h
    | some v =>
      simp only [Option.bind_some, hz, Option.map_some, Option.some.injEq] at h
      unfold szeroB at h
      split at h
      · rename_i cs
        exact ⟨cs, fun w => by simp [zeroValue, typeInfo, hi, hz], of_decide_eq_true h⟩
      · cases h

set_option maxRecDepth 20000 in
theorem swnew (w : World) (ao : Option Addr) (n cap : Nat) (p : Nat → Int) (hn : n ≤ 100000) (hp : Hid (Bx n p)) (hT : Hid (Tz w)) (h : Hid (IntsAt w ao n .u8 p)) :
    Calls Tryd.prog 10 #[.slice ao n cap] w fun e w' => ∃ b, e = .returned (.pointer (some ⟨b, 0, none⟩)) ∧ SwAt w' w.heap.size w'.heap.size b n p (Re.new p) ∧ Below w.heap.size w w' := by
  obtain ⟨Z, u1, hz⟩ := szero_run
  have HR : Hid (SRaw (w.alloc (.cells Z 59)) w.heap.size) := ⟨Z.toList, by rw [Array.toArray_toList]; exact heap_alloc_new w _, by rw [Array.length_toList]; exact hz⟩
  have HI : Hid (IntsAt (w.alloc (.cells Z 59)) ao n .u8 p) := h.out.alloc _
  have HT : Hid (Tz (w.alloc (.cells Z 59))) := hT.out.kept (World.grownBy_alloc w _ none) (by simp)
  have HN : Hid (∀ ad, 0 < n → ao = some ad → ad.block ≠ w.heap.size) := fun ad hn0 e => by
    obtain ⟨c, off, e2, hc⟩ := h.out 0 hn0
    have hlt := block_lt_of_cell hc
    rw [e] at e2
    cases e2
    exact Nat.ne_of_lt hlt
  have HPOS : Hid (0 < w.heap.size) := hT.out.pos
  clear hz
  go_enter Tryd.func10, Tryd.ntmps10
  go_wp2_with (go_at_call 27; refine (swreset _ w.heap.size w.heap.size ao n cap p hn (Nat.le_refl _) HPOS.out hp HT HR HI HN).mono ?_; rintro e w1 ⟨rfl, HW, HG⟩; replace HW : Hid (SwAt w1 w.heap.size w1.heap.size w.heap.size n p (Re.new p)) := HW; replace HG : Hid _ := HG)
  go_ret
  exact ⟨_, rfl, HW.out, below_grown ((Below.refl _ _).alloc (Nat.le_refl _) _) HG.out (Nat.le_refl _) (by simp)⟩

theorem sawake (w : World) (hT : Hid (Tz w)) : Calls Tryd.prog 8 #[] w fun e w' => e = .returned (.bool true) ∧ Below w.heap.size w w' := by
  have hx : Bx 4 (fun i => if i = 0 then 128 else 0) := ⟨fun i => by show 0 ≤ (if i = 0 then (128 : Int) else 0) ∧ (if i = 0 then (128 : Int) else 0) ≤ 255; split <;> omega, fun i hi => by show (if i = 0 then (128 : Int) else 0) = 0; rw [if_neg (by omega)]⟩
  have HX : Hid _ := hx
  have HG : Hid _ := new_good hx
  have eg : (Re.new (fun i => if i = 0 then 128 else 0)).getU 2 = 1 := by decide +kernel
  have HI : Hid (IntsAt (w.alloc (.cells #[.int .u8 128, .int .u8 0, .int .u8 0, .int .u8 0] 5)) (some ⟨w.heap.size, 0, none⟩) 4 .u8 (fun i => if i = 0 then 128 else 0)) := by
    intro i hi
    refine ⟨w.heap.size, 0, rfl, ?_⟩
    rw [cell_of_row _ _ _ _ _ _ (heap_alloc_new w _)]
    match i, hi with
    | 0, _ => rfl
    | 1, _ => rfl
    | 2, _ => rfl
    | 3, _ => rfl
  have HTA : Hid (Tz (w.alloc (.cells #[.int .u8 128, .int .u8 0, .int .u8 0, .int .u8 0] 5))) := hT.out.kept (World.grownBy_alloc w _ none) (by simp)
  clear hx
  go_enter Tryd.func8, Tryd.ntmps8
  go_wp2_with (first
    | (go_at_call 10; refine (swnew _ _ 4 4 _ (by decide) HX HTA HI).mono ?_; rintro e w1 ⟨b, rfl, HW, HB⟩; replace HW : Hid (SwAt w1 (w.alloc (.cells #[.int .u8 128, .int .u8 0, .int .u8 0, .int .u8 0] 5)).heap.size w1.heap.size b 4 (fun i => if i = 0 then 128 else 0) (Re.new (fun i => if i = 0 then 128 else 0))) := HW; replace HB : Hid _ := HB)
    | (go_at_call 12; refine (swget _ _ _ b 4 _ _ 2 HG HW).mono ?_; rw [eg]; rintro e w2 ⟨rfl, rfl⟩))
  go_ret
  exact ⟨rfl, ((Below.refl _ _).alloc (Nat.le_refl _) _).trans (HB.out.mono (by simp))⟩

end Go.Proofs.YtiejdlapgppbkaaDoor
