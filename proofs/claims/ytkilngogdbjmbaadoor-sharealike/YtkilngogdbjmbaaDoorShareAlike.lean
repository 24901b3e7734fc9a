/-
  The law ShareAlike of layer 15 (share) as a walk: called at any list of asks it returns true, and nothing that was there has turned.
-/
import Derived.Test.YtkilngogdbjmbaaDoorShareBegin
import Derived.Test.YtkilngogdbjmbaaDoorOpenAsks
namespace Go.Proofs.YtkilngogdbjmbaaDoor
set_option linter.unusedVariables false
set_option linter.unusedSimpArgs false
set_option maxRecDepth 20000
open Go.ChangeShapes Go.WideShapes Go.ChangeAt Go.RowKit

theorem first_of (F : Nat → Prop) : ∀ M : Nat, ∃ a : Nat, (a = 0 ∨ ¬ F (a - 1)) ∧ (a = M ∨ F a)
  | 0 => ⟨0, .inl rfl, .inl rfl⟩
  | M + 1 => by
    obtain ⟨a, h1, h2⟩ := first_of F M
    by_cases h : F a
    · exact ⟨a, h1, .inr h⟩
    · obtain rfl : a = M := h2.resolve_right h
      exact ⟨a + 1, .inr h, .inl rfl⟩
theorem SOut.some (B : Nat) (hB : B ≤ 5) (c t n : Int) : ∃ R, SOut B c t n R := by
  obtain ⟨a, h1, h2⟩ := first_of (tooDear B c t n) (pLast t B).toNat
  have := last_bd t hB
  exact ⟨_, a, rfl, h1, h2.imp_left (fun h => by omega)⟩
theorem K_none (t : Int) : ∀ j, aK 0 t j = fun _ => 0
  | 0 => rfl
  | j + 1 => by
    show aStep 0 t (aK 0 t j) = _
    rw [K_none t j]; rfl
theorem SOut.alike {B : Nat} (hB : B ≤ 5) {c t n : Int} (hc : B = 0 ∨ c = 1 ∨ c = 2) {R R' : Nat → Int} (h : SOut B c t n R) (h' : Out B c t n R') : R' = R := by
  by_cases h0 : B = 0
  · subst h0
    rw [h.none]
    obtain ⟨j, e, _⟩ := h'
    rw [e, K_none]
  · exact out_one hB (by omega) h' (h.out hB (by omega))
theorem SOut.same {B : Nat} (hB : B ≤ 5) {c t n : Int} (hc : B = 0 ∨ c = 1 ∨ c = 2) {R R' : Nat → Int} (h : SOut B c t n R) (h' : SOut B c t n R') : R' = R := by
  by_cases h0 : B = 0
  · subst h0
    rw [h.none, h'.none]
  · exact h.alike hB hc (h'.out hB (by omega))
theorem neq5 (R : Nat → Int) (w : World) : (binOp .neq 25 (.agg #[.int .i64 (R 0), .int .i64 (R 1), .int .i64 (R 2), .int .i64 (R 3), .int .i64 (R 4)]) (.agg #[.int .i64 (R 0), .int .i64 (R 1), .int .i64 (R 2), .int .i64 (R 3), .int .i64 (R 4)])).run Tryd.prog w = .ok (.bool false) w := by
  have e := equal5 R R w
  rw [same5_refl] at e
  rw [run_neq_struct]
  rw [show (#[.int .i64 (R 0), .int .i64 (R 1), .int .i64 (R 2), .int .i64 (R 3), .int .i64 (R 4)] : Array Value) = row5 R from rfl, e]
  rfl

/-- A law's share, its book, the list of asks. -/
structure AS (w X : World) (b q k : Nat) (ao : Option Addr) (m : Nat) (G : Nat → Nat → Int) : Prop where
  sr : SrAt X b q
  book : ∃ mo, Bk X k mo ∧ ∀ x, mo = some x → w.heap.size ≤ x
  klo : w.heap.size ≤ k
  tab : WTab X
  low : Below w.heap.size w X
  l : AksAt X ao m G
section
variable {w X X' : World} {b q k m : Nat} {ao : Option Addr} {G : Nat → Nat → Int} {mo mo' : Option Nat}
theorem AS.below (h : AS w X b q k ao m G) (hb : Below X.heap.size X X') : AS w X' b q k ao m G := by
  obtain ⟨mo, hB, hm⟩ := h.book
  exact ⟨h.sr.below hb, ⟨mo, hB.keep ⟨hb.os, hb.tape, hb.output, hb.size, fun i hi _ => hb.block i hi⟩, hm⟩, h.klo, h.tab.below hb, h.low.trans (hb.mono h.low.size), h.l.below hb⟩
theorem AksAt.gb (h : AksAt X ao m G) (hB : Bk X k mo) (hG : Gb X X' k mo mo') : AksAt X' ao m G := by
  obtain ⟨S, _, hB⟩ := hB
  intro i hi
  obtain ⟨b, off, e, c⟩ := h i hi
  exact ⟨b, off, e, fun j hj => cell_gb hB hG (c j hj)⟩
theorem AS.drewN (h : AS w X b q k ao m G) (d : Nat) : AS w (X.drewN d) b q k ao m G := by
  obtain ⟨mo, hB, hm⟩ := h.book
  exact ⟨h.sr.drewN d, ⟨mo, hB.drewN d, hm⟩, h.klo, h.tab, low_drewN h.low d, h.l⟩
theorem AS.gb (h : AS w X b q k ao m G) (hB : Bk X k mo) (hm : ∀ x, mo = some x → w.heap.size ≤ x) (hB' : Bk X' k mo') (hG : Gb X X' k mo mo') : AS w X' b q k ao m G :=
  ⟨h.sr.bk hB hG, ⟨mo', hB', hG.lo h.low.size hm⟩, h.klo, h.tab.bk hB hG, h.low.trans (hG.below h.klo h.low.size hm), h.l.gb hB hG⟩
end
/-- .. with one ask of them, and its mode, of the call's own. -/
structure AR (w X : World) (b q k : Nat) (ao : Option Addr) (m : Nat) (G : Nat → Nat → Int) (g gm : Nat) (s c t n : Int) : Prop where
  ss : AS w X b q k ao m G
  ask : AskAt X g s c t n
  md : Md X gm s c
  gk : g ≠ k
  mn : gm ≠ k
section
variable {w X X' : World} {b q k m g gm : Nat} {ao : Option Addr} {G : Nat → Nat → Int} {s c t n : Int}
theorem AR.drewN (h : AR w X b q k ao m G g gm s c t n) (d : Nat) : AR w (X.drewN d) b q k ao m G g gm s c t n := ⟨h.ss.drewN d, h.ask, h.md, h.gk, h.mn⟩
theorem ar_share (B : Nat) (hBn : Hid (bandsF s c = B)) (h5 : B ≤ 5) {R : Nat → Int} (hR : SOut B c t n R) (h : AR w X b q k ao m G g gm s c t n) :
    Calls Tryd.prog 9 #[.pointer (some ⟨b, 0, none⟩), (.agg #[.int .i64 (s), .int .i64 (c)]), .int .i64 t, .int .i64 n] X fun e w' => e = .returned (.agg #[.int .i64 (R 0), .int .i64 (R 1), .int .i64 (R 2), .int .i64 (R 3), .int .i64 (R 4)]) ∧ AR w w' b q k ao m G g gm s c t n := by
  refine (sall_any X b q s c t n B hBn h5 (bands_chan hBn.out) h.ss.sr h.ss.tab).mono ?_
  rintro e w' ⟨a, rfl, _, h1, h2, hb⟩
  have e := hR.same h5 (bands_chan hBn.out) ⟨a, rfl, h1, h2⟩
  exact ⟨by rw [e]; rfl, ⟨h.ss.below hb, h.ask.below hb, h.md.below hb, h.gk, h.mn⟩⟩
theorem ar_alloc (B : Nat) (hBn : Hid (bandsF s c = B)) (h5 : B ≤ 5) {R : Nat → Int} (hR : SOut B c t n R) (h : AR w X b q k ao m G g gm s c t n) :
    Calls Tryd.prog 13 #[.pointer (some ⟨k, 0, none⟩), (.agg #[.int .i64 (s), .int .i64 (c)]), .int .i64 t, .int .i64 n] X fun e w' => e = .returned (.agg #[.int .i64 (R 0), .int .i64 (R 1), .int .i64 (R 2), .int .i64 (R 3), .int .i64 (R 4)]) ∧ AR w w' b q k ao m G g gm s c t n := by
  obtain ⟨mo, hB, hm⟩ := h.ss.book
  refine (alloc_any X k mo s c t n B hBn h5 hB h.ss.tab).mono ?_
  rintro e w' ⟨R', rfl, hO, hF, mo', hB', hG⟩
  have e := hR.alike h5 (bands_chan hBn.out) hO
  have hk := Kp.gb (b := k) hB hG
  exact ⟨by rw [e]; rfl, ⟨h.ss.gb hB hm hB' hG, h.ask.kp hk h.gk, h.md.kp hk h.mn, h.gk, h.mn⟩⟩
end

set_option maxHeartbeats 8000000 in
theorem salike_law (ao : Option Addr) (m cap : Nat) (G : Nat → Nat → Int) (w : World) (hm : m ≤ maxLen) (hL : Hid (AksAt w ao m G)) (hT : Hid (WTab w)) :
    Calls Tryd.prog 4 #[.slice ao m cap] w fun e w' => e = .returned (.bool true) ∧ Below w.heap.size w w' := by
  go_enter Tryd.func4, Tryd.ntmps4
  go_wp2_with fail
  refine (awake15 _ hT).mono ?_
  rintro e w0 ⟨rfl, hb0⟩
  have HB0 : Hid (Below w.heap.size w w0) := hb0
  clear hb0
  by_cases h60 : 60 < m
  · have h60' : (60 : Int) < (m : Int) := by omega
    go_wp2
    go_returns
    exact ⟨rfl, HB0.out⟩
  · have h60' : ¬ (60 : Int) < (m : Int) := by omega
    go_wp2_with fail
    refine (fresh_any _).mono ?_
    rintro e w1 ⟨b, q, rfl, hS1, hle1, hle1', hb1⟩
    have HB1 : Hid (Below w.heap.size w w1) := HB0.out.trans (hb1.mono HB0.out.size)
    have HS1 : Hid (SrAt w1 b q) := hS1
    clear hS1 hle1 hle1' hb1 HB0
    go_wp2_with fail
    refine (newb_calls _).mono ?_
    rintro e w2 ⟨k, rfl, hB2, hb2, hle2⟩
    have hbel : Below w.heap.size w w2 := HB1.out.trans (hb2.mono HB1.out.size)
    have HA2 : Hid (AS w w2 b q k ao m G) := ⟨HS1.out.below hb2, ⟨none, hB2, fun x e => by cases e⟩, Nat.le_trans HB1.out.size hle2, hT.out.below hbel, hbel, hL.out.below hbel⟩
    clear hB2 hb2 hle2 hbel HS1 HB1
    go_wp2
    go_loopw [17] (fun i wr => ∃ j : Nat, j ≤ m ∧ i = .int .i64 j ∧ Hid (AS w wr b q k ao m G)) (fun i _ => m - (intOf i).toNat)
    case atStart => exact ⟨0, by omega, rfl, HA2⟩
    case round =>
      clear HA2
      obtain ⟨j, hj, rfl, HA⟩ := hrel
      by_cases hlt : j < m
      · have hlt' : (j : Int) < (m : Int) := by omega
        have hj0 : (0 : Int) ≤ (j : Int) := by omega
        obtain ⟨bl, off, rfl, x⟩ := HA.out.l j hlt
        have x0 := x 0 (by omega)
        have x1 := x 1 (by omega)
        have x2 := x 2 (by omega)
        have x3 := x 3 (by omega)
        rw [Nat.add_zero] at x0
        clear x
        obtain ⟨B, hB0, hB5⟩ : ∃ B : Nat, bandsF (G j 0) (G j 1) = B ∧ B ≤ 5 := ⟨(bandsF (G j 0) (G j 1)).toNat, by have := bands_bd (G j 0) (G j 1); omega, by have := bands_bd (G j 0) (G j 1); omega⟩
        have HBN : Hid (bandsF (G j 0) (G j 1) = B) := hB0
        obtain ⟨R, hR⟩ := SOut.some B hB5 (G j 1) (G j 2) (G j 3)
        have HR : Hid (SOut B (G j 1) (G j 2) (G j 3) R) := hR
        clear hB0 hR
        go_upto_region 10 with fail
        have hkl : k < wr.heap.size := by obtain ⟨mo, hB, _⟩ := HA.out.book; exact hB.lt
        have HP : Hid (AR w ((wr.alloc (.cells #[.int .i64 (G j 0), .int .i64 (G j 1), .int .i64 (G j 2), .int .i64 (G j 3)] 23)).alloc (.cells #[.int .i64 (G j 0), .int .i64 (G j 1)] 30)) b q k (some ⟨bl, off, none⟩) m G wr.heap.size (wr.heap.size + 1) (G j 0) (G j 1) (G j 2) (G j 3)) :=
          ⟨HA.out.below (gN_below (gN_alloc (gN_alloc (gN_refl wr) _) _)), heap_one _ _ _, heap_two _ _ _, by omega, by omega⟩
        clear x0 x1 x2 x3 HA hkl
        generalize ((wr.alloc (.cells #[.int .i64 (G j 0), .int .i64 (G j 1), .int .i64 (G j 2), .int .i64 (G j 3)] 23)).alloc (.cells #[.int .i64 (G j 0), .int .i64 (G j 1)] 30)) = w3 at *
        generalize wr.heap.size = g at *
        generalize G j 0 = s at *
        generalize G j 1 = c at *
        generalize G j 2 = t at *
        generalize G j 3 = n at *
        have hq := neq5 R
        have a2 := HP.out.ask.c2
        have a3 := HP.out.ask.c3
        have m0 := HP.out.md.cs
        have m1 := HP.out.md.cc
        have HSH : Hid (∀ X, AR w X b q k (some ⟨bl, off, none⟩) m G g (g + 1) s c t n → Calls Tryd.prog 9 #[.pointer (some ⟨b, 0, none⟩), (.agg #[.int .i64 (s), .int .i64 (c)]), .int .i64 t, .int .i64 n] X fun e w' => e = .returned (.agg #[.int .i64 (R 0), .int .i64 (R 1), .int .i64 (R 2), .int .i64 (R 3), .int .i64 (R 4)]) ∧ AR w w' b q k (some ⟨bl, off, none⟩) m G g (g + 1) s c t n) := fun X h => ar_share B HBN hB5 HR.out h
        have HAL : Hid (∀ X, AR w X b q k (some ⟨bl, off, none⟩) m G g (g + 1) s c t n → Calls Tryd.prog 13 #[.pointer (some ⟨k, 0, none⟩), (.agg #[.int .i64 (s), .int .i64 (c)]), .int .i64 t, .int .i64 n] X fun e w' => e = .returned (.agg #[.int .i64 (R 0), .int .i64 (R 1), .int .i64 (R 2), .int .i64 (R 3), .int .i64 (R 4)]) ∧ AR w w' b q k (some ⟨bl, off, none⟩) m G g (g + 1) s c t n) := fun X h => ar_alloc B HBN hB5 HR.out h
        go_region_held3 (fun w' => w'.cell? ⟨g, 2, none⟩ = some (.int .i64 t) ∧ w'.cell? ⟨g, 3, none⟩ = some (.int .i64 n) ∧ w'.cell? ⟨g + 1, 0, none⟩ = some (.int .i64 s) ∧ w'.cell? ⟨g + 1, 1, none⟩ = some (.int .i64 c)) (first | exact ⟨a2, a3, m0, m1⟩ | exact ⟨b2, b3, n0, n1⟩ | exact ⟨c2, c3, o0, o1⟩) ((first
          | (go_at_call 9; refine (HSH.out _ (by first | exact HP5.out | exact HP5.out.drewN _ | exact HP.out.drewN _)).mono ?_; rintro e w4 ⟨rfl, hP⟩; have HP4 : Hid (AR w w4 b q k (some ⟨bl, off, none⟩) m G g (g + 1) s c t n) := hP; have b2 := hP.ask.c2; have b3 := hP.ask.c3; have n0 := hP.md.cs; have n1 := hP.md.cc; clear hP)
          | (go_at_call 13; refine (HAL.out _ (by first | exact HP4.out | exact HP4.out.drewN _ | exact HP.out.drewN _)).mono ?_; rintro e w5 ⟨rfl, hP⟩; have HP5 : Hid (AR w w5 b q k (some ⟨bl, off, none⟩) m G g (g + 1) s c t n) := hP; have c2 := hP.ask.c2; have c3 := hP.ask.c3; have o0 := hP.md.cs; have o1 := hP.md.cc; clear hP)))
        all_goals go_wp2
        all_goals go_roundw
        all_goals first
          | exact ⟨j + 1, by omega, by go_num, HP5.out.ss⟩
          | exact ⟨j + 1, by omega, by go_num, HP4.out.ss⟩
          | (simp [intOf]; omega)
      · obtain rfl : j = m := by omega
        go_wp2
        go_returns
        exact ⟨rfl, HA.out.low⟩
end Go.Proofs.YtkilngogdbjmbaaDoor
