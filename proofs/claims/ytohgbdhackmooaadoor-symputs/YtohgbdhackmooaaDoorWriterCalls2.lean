/-
  What widen, Put, pushBit and Raw of package writer do to a writer that lies somewhere. Nothing else is turned.
-/
import Derived.Test.YtohgbdhackmooaaDoorWriterCalls
namespace Go.Proofs.YtohgbdhackmooaaDoor
set_option linter.unusedVariables false
open Go.ChangeShapes Go.WideShapes Go.ChangeAt Go.RowKit

theorem wrap_u8 {x : Int} (h0 : 0 ≤ x) (h1 : x ≤ 255) : IntKind.u8.wrap x = x := by simp [IntKind.wrap, IntKind.bits, IntKind.signed]; omega
theorem wrap_u16 (x : Int) : IntKind.u16.wrap x = x % 65536 := by simp [IntKind.wrap, IntKind.bits, IntKind.signed]
theorem wrap_u32 {x : Int} (h0 : 0 ≤ x) (h1 : x < 4294967296) : IntKind.u32.wrap x = x := by simp [IntKind.wrap, IntKind.bits, IntKind.signed]; omega

set_option maxRecDepth 20000 in
theorem widen_one (w : World) (b z n k : Nat) (r l : Int) (f : Nat → Int) (hz : z ≤ 1275) (hn : n ≤ 800000) (hk : k ≤ 800000) (hr1 : 256 < r) (hr2 : r ≤ 65536) (hl0 : 0 ≤ l) (hl1 : l < 16777216) (hw : Hid (WCells w b z r l n k f)) :
    Calls Tryd.prog 87 #[.pointer (some ⟨b, 0, none⟩)] w fun e w' => e = .returned (.tuple #[]) ∧ WCells w' b z (r * 256) (l % 65536 * 256) (n + 1) k (if 0 ≤ leftF z (n + 1) k then setF f n (l / 65536) else f) ∧ w.grownBy w' (some b) := by
  have h1 := hw.out.c1
  have h2 := hw.out.c2
  have fz := hw.out.fz
  have e1 := wrap_u8 (x := l / 65536) (by omega) (by omega)
  have e2 := wrap_u16 l
  have e3 := wrap_u32 (x := l % 65536 * 256) (by omega) (by omega)
  have e4 := wrap_u32 (x := r * 256) (by omega) (by omega)
  obtain ⟨F, HF⟩ : ∃ F, Hid ((if 0 ≤ leftF z (n + 1) k then setF f n (l / 65536) else f) = F) := ⟨_, rfl⟩
  rw [HF.out]
  go_enter Tryd.func87, Tryd.ntmps87
  go_wp2
  refine wp_loop_rounds 3 ?_
  rw [rounds_succ]
  go_wp2_with (go_at_call 89; refine (push_any _ b z n k r l (l / 65536) f hz (by omega) (by omega) hw).mono ?_; rintro e w1 ⟨rfl, HW1, HB1⟩; have c1 := HW1.c1; have c2 := HW1.c2; have fz1 := HW1.fz; replace HW1 : Hid _ := HW1; replace HB1 : Hid _ := HB1)
  have g1 : 65536 < r * 256 := by omega
  rw [rounds_succ]
  go_wp2
  refine bodyPost_ret (results_none rfl _ _ _) rfl ?_
  exact ⟨rfl, by rw [← HF.out]; exact (HW1.out.set2 _).set1 _, grown_set (grown_set HB1.out _) _⟩

theorem widen_none (w : World) (b z n k : Nat) (r l : Int) (f : Nat → Int) (hr1 : 65536 < r) (hw : Hid (WCells w b z r l n k f)) :
    Calls Tryd.prog 87 #[.pointer (some ⟨b, 0, none⟩)] w fun e w' => e = .returned (.tuple #[]) ∧ w' = w := by
  have h1 := hw.out.c1
  go_enter Tryd.func87, Tryd.ntmps87
  go_wp2
  refine wp_loop_rounds 3 ?_
  rw [rounds_succ]
  go_wp2
  refine bodyPost_ret (results_none rfl _ _ _) rfl ?_
  exact ⟨rfl, rfl⟩

set_option maxRecDepth 20000 in
theorem widen_two (w : World) (b z n k : Nat) (r l : Int) (f : Nat → Int) (hz : z ≤ 1275) (hn : n ≤ 800000) (hk : k ≤ 800000) (hr1 : 1 < r) (hr2 : r ≤ 256) (hl0 : 0 ≤ l) (hl1 : l < 16777216) (hw : Hid (WCells w b z r l n k f)) :
    Calls Tryd.prog 87 #[.pointer (some ⟨b, 0, none⟩)] w fun e w' => e = .returned (.tuple #[]) ∧ WCells w' b z (r * 256 * 256) (l % 65536 * 256 % 65536 * 256) (n + 1 + 1) k (if 0 ≤ leftF z (n + 1 + 1) k then setF (if 0 ≤ leftF z (n + 1) k then setF f n (l / 65536) else f) (n + 1) (l % 65536 * 256 / 65536) else (if 0 ≤ leftF z (n + 1) k then setF f n (l / 65536) else f)) ∧ w.grownBy w' (some b) := by
  have h1 := hw.out.c1
  have h2 := hw.out.c2
  have fz := hw.out.fz
  have e1 := wrap_u8 (x := l / 65536) (by omega) (by omega)
  have e2 := wrap_u16 l
  have e3 := wrap_u32 (x := l % 65536 * 256) (by omega) (by omega)
  have e4 := wrap_u32 (x := r * 256) (by omega) (by omega)
  generalize hl' : l % 65536 * 256 = l' at *
  generalize hr' : r * 256 = r' at *
  have HL : Hid (0 ≤ l' ∧ l' < 16777216) := by show 0 ≤ l' ∧ l' < 16777216; omega
  have HR : Hid (256 < r' ∧ r' ≤ 65536) := by show 256 < r' ∧ r' ≤ 65536; omega
  have f1 := wrap_u8 (x := l' / 65536) (by have := HL.out; omega) (by have := HL.out; omega)
  have f2 := wrap_u16 l'
  have f3 := wrap_u32 (x := l' % 65536 * 256) (by omega) (by omega)
  have f4 := wrap_u32 (x := r' * 256) (by have := HR.out; omega) (by have := HR.out; omega)
  have g1 : ¬ 65536 < r' := by have := HR.out; omega
  obtain ⟨F, HF⟩ : ∃ F, Hid ((if 0 ≤ leftF z (n + 1) k then setF f n (l / 65536) else f) = F) := ⟨_, rfl⟩
  rw [HF.out]
  obtain ⟨G, HG⟩ : ∃ G, Hid ((if 0 ≤ leftF z (n + 1 + 1) k then setF F (n + 1) (l' / 65536) else F) = G) := ⟨_, rfl⟩
  rw [HG.out]
  go_enter Tryd.func87, Tryd.ntmps87
  go_wp2
  refine wp_loop_rounds 3 ?_
  rw [rounds_succ]
  go_wp2_with (go_at_call 89; refine (push_any _ b z n k r l (l / 65536) f hz (by omega) (by omega) hw).mono ?_; rintro e w1 ⟨rfl, HW1, HB1⟩; rw [HF.out] at HW1; have c1 := HW1.c1; have c2 := HW1.c2; have fz1 := HW1.fz; replace HW1 : Hid _ := HW1; replace HB1 : Hid _ := HB1)
  have HW2 : Hid _ := (HW1.out.set2 l').set1 r'
  rw [rounds_succ]
  go_wp2_with (go_at_call 89; refine (push_any _ b z (n + 1) k r' l' (l' / 65536) F hz (by omega) (by omega) HW2).mono ?_; rintro e w2 ⟨rfl, HW3, HB2⟩; rw [HG.out] at HW3; have d1 := HW3.c1; have d2 := HW3.c2; have fz2 := HW3.fz; replace HW3 : Hid _ := HW3; replace HB2 : Hid _ := HB2)
  rw [rounds_succ]
  go_wp2
  go_end0
  exact ⟨rfl, (HW3.out.set2 _).set1 _, grown_set (grown_set (grown_trans (grown_set (grown_set HB1.out _) _) HB2.out) _) _⟩

/-- What widen does, said of the writer. -/
theorem widen_wr (w : World) (b z : Nat) (m : Mo) (low : Int) (f : Nat → Int) (hz : z ≤ 1275) (hn : m.nD ≤ 700000) (hk : m.nR ≤ 700000) (hr1 : 1 < m.rng) (hi : Hid (Inv z m low f)) (hw : Hid (WCells w b z m.rng low (m.nD - 3) m.nR f)) :
    Calls Tryd.prog 87 #[.pointer (some ⟨b, 0, none⟩)] w fun e w' => e = .returned (.tuple #[]) ∧ WrAt w' b z m.wide ∧ w.grownBy w' (some b) := by
  have hl := hi.out.low_bd
  have h3 := hi.out.ok.n3
  have eg : ∀ m : Mo, 3 ≤ m.nD → leftF z (m.nD - 3 + 1) m.nR = m.grow.left z := by
    intro m h3
    unfold leftF Mo.left
    show 8 * ((z : Int) - 3 - ((m.nD - 3 + 1 : Nat) : Int)) - (m.nR : Int) = 8 * (z : Int) - 8 * ((m.nD + 1 : Nat) : Int) - (m.nR : Int)
    omega
  have i1 := inv_grow hi.out
  rw [← eg m h3] at i1
  unfold Mo.wide
  by_cases h1 : m.rng ≤ 256
  · rw [if_pos h1]
    have i2 := inv_grow i1
    rw [← eg m.grow (grow_ok hi.out.ok).n3] at i2
    have e1 : m.grow.nD - 3 = m.nD - 3 + 1 := by show m.nD + 1 - 3 = _; omega
    have e2 : m.grow.grow.nD - 3 = m.nD - 3 + 1 + 1 := by show m.nD + 1 + 1 - 3 = _; omega
    have e3 : m.grow.nR = m.nR := rfl
    rw [e1, e3] at i2
    refine (widen_two w b z (m.nD - 3) m.nR m.rng low f hz (by omega) (by omega) hr1 h1 hl.1 hl.2 hw).mono ?_
    rintro e w' ⟨rfl, hW, hB⟩
    exact ⟨rfl, ⟨_, _, i2, by rw [e2]; exact hW⟩, hB⟩
  · rw [if_neg h1]
    by_cases h2 : m.rng ≤ 65536
    · rw [if_pos h2]
      have e1 : m.grow.nD - 3 = m.nD - 3 + 1 := by show m.nD + 1 - 3 = _; omega
      refine (widen_one w b z (m.nD - 3) m.nR m.rng low f hz (by omega) (by omega) (by omega) h2 hl.1 hl.2 hw).mono ?_
      rintro e w' ⟨rfl, hW, hB⟩
      exact ⟨rfl, ⟨_, _, i1, by rw [e1]; exact hW⟩, hB⟩
    · rw [if_neg h2]
      refine (widen_none w b z (m.nD - 3) m.nR m.rng low f (by omega) hw).mono ?_
      rintro e w' ⟨rfl, rfl⟩
      exact ⟨rfl, ⟨_, _, hi.out, hw.out⟩, grown_refl _ _⟩

theorem put_bad (w : World) (b z : Nat) (m : Mo) (x y t : Int) (h : ¬ May x y t) :
    Calls Tryd.prog 84 #[.pointer (some ⟨b, 0, none⟩), .int .i64 x, .int .i64 y, .int .i64 t] w fun e w' => e = .returned (.int .i64 1) ∧ w' = w := by
  by_cases h1 : x < 0
  · go_enter Tryd.func84, Tryd.ntmps84
    go_wp2
    go_ret
    exact ⟨rfl, rfl⟩
  · by_cases h2 : y ≤ x
    · go_enter Tryd.func84, Tryd.ntmps84
      go_wp2
      go_ret
      exact ⟨rfl, rfl⟩
    · by_cases h3 : t < y
      · go_enter Tryd.func84, Tryd.ntmps84
        go_wp2
        go_ret
        exact ⟨rfl, rfl⟩
      · have h4 : 4096 < t := by
          unfold May at h; omega
        clear h
        go_enter Tryd.func84, Tryd.ntmps84
        go_wp2
        go_ret
        exact ⟨rfl, rfl⟩

set_option maxHeartbeats 1000000 in
theorem put_wr (w : World) (b z : Nat) (m : Mo) (x y t : Int) (hz : z ≤ 1275) (hn : m.nD ≤ 600000) (hk : m.nR ≤ 600000) (hg : Hid m.Good) (hm : Hid (May x y t)) (hw : Hid (WrAt w b z m)) :
    Calls Tryd.prog 84 #[.pointer (some ⟨b, 0, none⟩), .int .i64 x, .int .i64 y, .int .i64 t] w fun e w' => e = .returned (.int .i64 0) ∧ WrAt w' b z (m.put x y t) ∧ w.grownBy w' (some b) := by
  obtain ⟨low, f, HI, HW⟩ := hw
  have hp := part_bd hg.out.r1 hm.out
  have hr2 := hg.out.r2
  have hl := HI.low_bd
  obtain ⟨hlt, hge⟩ := inv_sym HI hg.out hm.out
  obtain ⟨a0, ab, bt, t1⟩ := hm.out
  have c1 := HW.c1
  have c2 := HW.c2
  have fz := HW.fz
  have eq : m.rng.tdiv t = m.rng / t := Int.tdiv_eq_ediv_of_nonneg (by omega)
  have hpart : (m.sym x y t).rng = m.part x y t := rfl
  have HP : Hid (m.put x y t = (m.sym x y t).wide) := rfl
  rw [HP.out]
  generalize hs : m.sym x y t = s at *
  have sn : s.nD = m.nD := by rw [← hs]; rfl
  have sk : s.nR = m.nR := by rw [← hs]; rfl
  unfold Mo.part at hpart hp
  generalize hq : m.rng / t = q at *
  generalize hu : x * q = u at *
  have w1 := wrap_u32 (x := t) (by omega) (by omega)
  have w2 := wrap_u32 (x := x) (by omega) (by omega)
  have w3 := wrap_u32 (x := u) (by omega) (by omega)
  have w4 := wrap_u32 (x := y - x) (by omega) (by omega)
  have w5 := wrap_u32 (x := q) (by omega) (by omega)
  have w6 := wrap_u32 (x := low + u) (by omega) (by omega)
  have q0 : ¬ (t = 0) := by omega
  by_cases hyt : y = t
  · rw [if_pos hyt] at hpart hp
    subst hyt
    have w7 := wrap_u32 (x := m.rng - u) (by omega) (by omega)
    by_cases hc : low + u < 16777216
    · have HI2 : Hid _ := hlt hc
      have hc' : ¬ (16777216 ≤ low + u) := by omega
      have HW2 : Hid (WCells ((w.setCell ⟨b, 1, none⟩ (.int .u32 (m.rng - u))).setCell ⟨b, 2, none⟩ (.int .u32 (low + u))) b z s.rng (low + u) (s.nD - 3) s.nR f) := by rw [hpart, sn, sk]; exact (HW.set1 _).set2 _
      have hr : 1 < s.rng := by omega
      have hn' : s.nD ≤ 700000 := by omega
      have hk' : s.nR ≤ 700000 := by omega
      clear hge hlt hs hq hpart
      go_enter Tryd.func84, Tryd.ntmps84
      go_wp2_with (go_at_call 87; refine (widen_wr _ b z s (low + u) f hz hn' hk' hr HI2 HW2).mono ?_; rintro e w1 ⟨rfl, HA, HB⟩; replace HA : Hid _ := HA; replace HB : Hid _ := HB)
      go_ret
      exact ⟨rfl, HA.out, grown_trans (grown_set (grown_set (grown_refl _ _) _) _) HB.out⟩
    · have hc' : 16777216 ≤ low + u := by omega
      have HI2 : Hid _ := hge hc'
      have w8 := wrap_u32 (x := low + u - 16777216) (by omega) (by omega)
      have HW2 : Hid (WCells (((w.setCell ⟨b, 1, none⟩ (.int .u32 (m.rng - u))).setCell ⟨b, 2, none⟩ (.int .u32 (low + u))).setCell ⟨b, 2, none⟩ (.int .u32 (low + u - 16777216))) b z s.rng (low + u - 16777216) (m.nD - 3) m.nR f) := by rw [hpart]; exact ((HW.set1 _).set2 _).set2 _
      have hr : 1 < s.rng := by omega
      have hn' : s.nD ≤ 700000 := by omega
      have hk' : s.nR ≤ 700000 := by omega
      have hbf : Hid (Byte f) := HI.byte
      have h3 := HI.ok.n3
      have el : Hid (leftF z (m.nD - 3) m.nR = m.left z) := by show _ = _; unfold leftF Mo.left; omega
      have HS : Hid (s.nD = m.nD ∧ s.nR = m.nR) := ⟨sn, sk⟩
      clear hge hlt hs hq hpart sn sk
      go_enter Tryd.func84, Tryd.ntmps84
      go_wp2_with (first | (go_at_call 86; refine (carry_any _ b z (m.nD - 3) m.nR s.rng (low + u - 16777216) f hz (by omega) (by omega) hbf HW2).mono ?_; rintro e w1 ⟨rfl, HA0, HB⟩; have HA : Hid (WCells w1 b z s.rng (low + u - 16777216) (s.nD - 3) s.nR (if 0 ≤ m.left z then carryF (m.nD - 3) f else f)) := (by rw [HS.out.1, HS.out.2, ← el.out]; exact HA0); clear HA0; replace HB : Hid _ := HB) | (go_at_call 87; refine (widen_wr _ b z s _ _ hz hn' hk' hr HI2 HA).mono ?_; rintro e w2 ⟨rfl, HA2, HB2⟩; replace HA2 : Hid _ := HA2; replace HB2 : Hid _ := HB2))
      go_ret
      exact ⟨rfl, HA2.out, grown_trans (grown_trans (grown_set (grown_set (grown_set (grown_refl _ _) _) _) _) HB.out) HB2.out⟩
  · rw [if_neg hyt] at hpart hp
    generalize hv : (y - x) * q = v at *
    have w7 := wrap_u32 (x := v) (by omega) (by omega)
    by_cases hc : low + u < 16777216
    · have HI2 : Hid _ := hlt hc
      have hc' : ¬ (16777216 ≤ low + u) := by omega
      have HW2 : Hid (WCells ((w.setCell ⟨b, 1, none⟩ (.int .u32 (v))).setCell ⟨b, 2, none⟩ (.int .u32 (low + u))) b z s.rng (low + u) (s.nD - 3) s.nR f) := by rw [hpart, sn, sk]; exact (HW.set1 _).set2 _
      have hr : 1 < s.rng := by omega
      have hn' : s.nD ≤ 700000 := by omega
      have hk' : s.nR ≤ 700000 := by omega
      clear hge hlt hs hq hpart
      go_enter Tryd.func84, Tryd.ntmps84
      go_wp2_with (go_at_call 87; refine (widen_wr _ b z s (low + u) f hz hn' hk' hr HI2 HW2).mono ?_; rintro e w1 ⟨rfl, HA, HB⟩; replace HA : Hid _ := HA; replace HB : Hid _ := HB)
      go_ret
      exact ⟨rfl, HA.out, grown_trans (grown_set (grown_set (grown_refl _ _) _) _) HB.out⟩
    · have hc' : 16777216 ≤ low + u := by omega
      have HI2 : Hid _ := hge hc'
      have w8 := wrap_u32 (x := low + u - 16777216) (by omega) (by omega)
      have HW2 : Hid (WCells (((w.setCell ⟨b, 1, none⟩ (.int .u32 (v))).setCell ⟨b, 2, none⟩ (.int .u32 (low + u))).setCell ⟨b, 2, none⟩ (.int .u32 (low + u - 16777216))) b z s.rng (low + u - 16777216) (m.nD - 3) m.nR f) := by rw [hpart]; exact ((HW.set1 _).set2 _).set2 _
      have hr : 1 < s.rng := by omega
      have hn' : s.nD ≤ 700000 := by omega
      have hk' : s.nR ≤ 700000 := by omega
      have hbf : Hid (Byte f) := HI.byte
      have h3 := HI.ok.n3
      have el : Hid (leftF z (m.nD - 3) m.nR = m.left z) := by show _ = _; unfold leftF Mo.left; omega
      have HS : Hid (s.nD = m.nD ∧ s.nR = m.nR) := ⟨sn, sk⟩
      clear hge hlt hs hq hpart sn sk
      go_enter Tryd.func84, Tryd.ntmps84
      go_wp2_with (first | (go_at_call 86; refine (carry_any _ b z (m.nD - 3) m.nR s.rng (low + u - 16777216) f hz (by omega) (by omega) hbf HW2).mono ?_; rintro e w1 ⟨rfl, HA0, HB⟩; have HA : Hid (WCells w1 b z s.rng (low + u - 16777216) (s.nD - 3) s.nR (if 0 ≤ m.left z then carryF (m.nD - 3) f else f)) := (by rw [HS.out.1, HS.out.2, ← el.out]; exact HA0); clear HA0; replace HB : Hid _ := HB) | (go_at_call 87; refine (widen_wr _ b z s _ _ hz hn' hk' hr HI2 HA).mono ?_; rintro e w2 ⟨rfl, HA2, HB2⟩; replace HA2 : Hid _ := HA2; replace HB2 : Hid _ := HB2))
      go_ret
      exact ⟨rfl, HA2.out, grown_trans (grown_trans (grown_set (grown_set (grown_set (grown_refl _ _) _) _) _) HB.out) HB2.out⟩

end Go.Proofs.YtohgbdhackmooaaDoor
