/-
  The law AllocTells of layer 14 (alloc) as a walk: called at any input it returns true, and nothing that was there has turned.
-/
import Derived.Test.YthlbilfdeneajaaDoorAllocBegin
import Derived.Test.YthlbilfdeneajaaDoorAllocRef
import Derived.Deep.CutBlock
namespace Go.Proofs.YthlbilfdeneajaaDoor
set_option linter.unusedVariables false
open Go.ChangeShapes Go.WideShapes Go.ChangeAt Go.RowKit
open Go.Sort (grow)

theorem eql5xx (a b c d e a' b' c' d' e' : Int) (w : World) : (binOp .eql 25 (.agg #[.int .i64 a, .int .i64 b, .int .i64 c, .int .i64 d, .int .i64 e]) (.agg #[.int .i64 a', .int .i64 b', .int .i64 c', .int .i64 d', .int .i64 e'])).run Tryd.prog w = .ok (.bool (a == a' && b == b' && c == c' && d == d' && e == e')) w :=
  eql5x (fun i => [a, b, c, d, e].getD i 0) a' b' c' d' e' w
theorem equal5xx (a b c d e a' b' c' d' e' : Int) (w : World) : (Op.equalIn 10000 25 (.agg #[.int .i64 a, .int .i64 b, .int .i64 c, .int .i64 d, .int .i64 e]) (.agg #[.int .i64 a', .int .i64 b', .int .i64 c', .int .i64 d', .int .i64 e'])).run Tryd.prog w = .ok (a == a' && b == b' && c == c' && d == d' && e == e') w :=
  equal5x (fun i => [a, b, c, d, e].getD i 0) a' b' c' d' e' w
attribute [local go_sem] eql5 eql5x equal5 equal5x eql5xx equal5xx
attribute [local go_sem] cell?_gr frozen?_gr setCell_gr size_gr drew_gr drewN_gr redrawn_drew redrawn_drewN redrawn_redrawn gr_gr

theorem Rw.put {X : World} {g : Nat} {f : Nat → Int} (h : Rw X g f) (R : Nat → Int) : Rw (((((X.setCell ⟨g, 0, none⟩ (.int .i64 (R 0))).setCell ⟨g, 1, none⟩ (.int .i64 (R 1))).setCell ⟨g, 2, none⟩ (.int .i64 (R 2))).setCell ⟨g, 3, none⟩ (.int .i64 (R 3))).setCell ⟨g, 4, none⟩ (.int .i64 (R 4))) g R := by
  have h1 := heap_setCell_same X g 0 _ _ (.int .i64 (R 0)) h
  have h2 := heap_setCell_same _ g 1 _ _ (.int .i64 (R 1)) h1
  have h3 := heap_setCell_same _ g 2 _ _ (.int .i64 (R 2)) h2
  have h4 := heap_setCell_same _ g 3 _ _ (.int .i64 (R 3)) h3
  exact heap_setCell_same _ g 4 _ _ (.int .i64 (R 4)) h4
theorem St.put5 {w X : World} {s c t n : Int} {b g : Nat} {f : Nat → Int} (h : St w X s c t n b) (hT : WTab w) (hR : Rw X g f) (hg : w.heap.size < g) (hb : g ≠ b) (R : Nat → Int) : St w (((((X.setCell ⟨g, 0, none⟩ (.int .i64 (R 0))).setCell ⟨g, 1, none⟩ (.int .i64 (R 1))).setCell ⟨g, 2, none⟩ (.int .i64 (R 2))).setCell ⟨g, 3, none⟩ (.int .i64 (R 3))).setCell ⟨g, 4, none⟩ (.int .i64 (R 4))) s c t n b := by
  have h1 := heap_setCell_same X g 0 _ _ (.int .i64 (R 0)) hR
  have h2 := heap_setCell_same _ g 1 _ _ (.int .i64 (R 1)) h1
  have h3 := heap_setCell_same _ g 2 _ _ (.int .i64 (R 2)) h2
  have h4 := heap_setCell_same _ g 3 _ _ (.int .i64 (R 3)) h3
  exact ((((h.set hT hR hg hb 0 _).set hT h1 hg hb 1 _).set hT h2 hg hb 2 _).set hT h3 hg hb 3 _).set hT h4 hg hb 4 _
theorem K_none (t : Int) : ∀ j, aK 0 t j = fun _ => 0
  | 0 => rfl
  | j + 1 => by
    show aStep 0 t (aK 0 t j) = _
    rw [K_none t j]; rfl
theorem out_none {c t n : Int} {R : Nat → Int} (h : Out 0 c t n R) : R = fun _ => 0 := by
  obtain ⟨j, e, _⟩ := h
  rw [e, K_none]

set_option maxRecDepth 4000 in
set_option maxHeartbeats 8000000 in
theorem atells_law (s c t n : Int) (w : World) (n1 : -9223372036854775808 ≤ n) (n2 : n ≤ 9223372036854775807) (hT : Hid (WTab w)) :
    Calls Tryd.prog 3 #[.agg #[.int .i64 s, .int .i64 c, .int .i64 t, .int .i64 n]] w fun e w' => e = .returned (.bool true) ∧ Below w.heap.size w w' := by
  obtain ⟨B, hB0, hB5⟩ : ∃ B : Nat, bandsF s c = B ∧ B ≤ 5 := ⟨(bandsF s c).toNat, by have := bands_bd s c; omega, by have := bands_bd s c; omega⟩
  have HBN : Hid (bandsF s c = B) := hB0
  clear hB0
  go_enter Tryd.func3, Tryd.ntmps3
  go_wp2_with fail
  refine (awake14 _ (hT.out.below (by go_grown))).mono ?_
  rintro e w0 ⟨rfl, hb0⟩
  have HY0 : Hid (Below w.heap.size w w0) := below_al hb0
  have HA0 : Hid (AskAt w0 w.heap.size s c t n) := (AskAt.new w s c t n).below hb0
  have hs0 : w.heap.size < w0.heap.size := HA0.out.lt
  have HT0 : Hid (WTab w0) := hT.out.below HY0.out
  clear hb0
  have a0 := HA0.out.c0
  have a1 := HA0.out.c1
  have a2 := HA0.out.c2
  have a3 := HA0.out.c3
  go_upto_region 3 with fail
  have hn0 : ¬ w.heap.size = w0.heap.size := Nat.ne_of_lt hs0
  have hn0' : ¬ w0.heap.size = w.heap.size := Nat.ne_of_gt hs0
  have HI : Hid (Ini w w0 s c t n) := ⟨HA0.out, HY0.out, HT0.out⟩
  have HC : Hid (∀ X b, St w X s c t n b → Calls Tryd.prog 9 #[.pointer (some ⟨b, 0, none⟩), (.agg #[.int .i64 (s), .int .i64 (c)]), .int .i64 t, .int .i64 n] X fun e w' => ∃ R, e = .returned (.agg #[.int .i64 (R 0), .int .i64 (R 1), .int .i64 (R 2), .int .i64 (R 3), .int .i64 (R 4)]) ∧ Out B c t n R ∧ Fit B R ∧ St w w' s c t n b ∧ Kp X w' b) := fun X b h => st_all _ _ t n B HBN hB5 h
  go_cut [3] (fun p wc => ∃ (x b : Nat) (R : Nat → Int), p = .pointer (some ⟨x, 0, none⟩) ∧ Hid (Out B c t n R) ∧ Hid (Rw wc x R) ∧ Hid (St w wc s c t n b))
  case first =>
    go_region_held3 (fun w' => w'.cell? ⟨w.heap.size, 0, none⟩ = some (.int .i64 s) ∧ w'.cell? ⟨w.heap.size, 1, none⟩ = some (.int .i64 c) ∧ w'.cell? ⟨w.heap.size, 2, none⟩ = some (.int .i64 t) ∧ w'.cell? ⟨w.heap.size, 3, none⟩ = some (.int .i64 n)) (first | with_reducible exact ⟨a0, a1, a2, a3⟩ | with_reducible exact ⟨b0, b1, b2, b3⟩ | with_reducible exact ⟨c0, c1, c2, c3⟩ | (simp [go_sem]; done) | go_keep) ((first
      | (go_at_call 10; refine (st_new (by first | with_reducible exact HI.out | with_reducible exact HI.out.alloc _ | with_reducible exact HI.out.drew | with_reducible exact HI.out.drew.alloc _ | with_reducible exact (HI.out.alloc _).drew)).mono ?_; rintro e w1 ⟨b, rfl, hS1, hK1, hle1⟩; have HS1 : Hid (St w w1 s c t n b) := hS1; have hs1 := hS1.al; have hn1 : ¬ w.heap.size = w1.heap.size := Nat.ne_of_lt hs1; have hn1' : ¬ w1.heap.size = w.heap.size := Nat.ne_of_gt hs1; have b0 := hS1.ini.ask.c0; have b1 := hS1.ini.ask.c1; have b2 := hS1.ini.ask.c2; have b3 := hS1.ini.ask.c3; (first | (have hz1 : Rw _ w0.heap.size (fun _ => (0 : Int)) ∧ Kq _ w1 := ⟨(by first | with_reducible exact Rw.newZ _ | with_reducible exact Rw.newZ' _ | with_reducible exact (Rw.newZ _).drew), hK1⟩; have HZ1 : Hid (Rw w1 w0.heap.size (fun _ => (0 : Int))) := Rw.kq hz1.1 hK1; have hgb : w0.heap.size ≠ b := Nat.ne_of_lt (Nat.lt_of_lt_of_le hz1.1.lt hle1); clear hz1) | skip); clear hS1 hK1 hle1)
      | (go_at_call 9; refine (HC.out _ b (by first | with_reducible exact HS1.out | with_reducible exact HS1.out.alloc _ | with_reducible exact HS1.out.drew | with_reducible exact HS1.out.drew.alloc _ | with_reducible exact (HS1.out.alloc _).drew)).mono ?_; rintro e w2 ⟨R, rfl, hO, hF, hS2, hK2⟩; have HS2 : Hid (St w w2 s c t n b) := hS2; have HO : Hid (Out B c t n R) := hO; have hs2 := hS2.al; have hn2 : ¬ w.heap.size = w2.heap.size := Nat.ne_of_lt hs2; have hn2' : ¬ w2.heap.size = w.heap.size := Nat.ne_of_gt hs2; have c0 := hS2.ini.ask.c0; have c1 := hS2.ini.ask.c1; have c2 := hS2.ini.ask.c2; have c3 := hS2.ini.ask.c3; (first | (have HZ2 : Hid (Rw w2 w1.heap.size (fun _ => (0 : Int))) := Rw.kp (by first | with_reducible exact Rw.newZ _ | with_reducible exact Rw.newZ' _ | with_reducible exact (Rw.newZ _).drew) hK2 (Nat.ne_of_gt HS1.out.bl); have z0 := HZ2.out.cell (i := 0) (by omega); have z1 := HZ2.out.cell (i := 1) (by omega); have z2 := HZ2.out.cell (i := 2) (by omega); have z3 := HZ2.out.cell (i := 3) (by omega); have z4 := HZ2.out.cell (i := 4) (by omega); have zf := HZ2.out.fz; have hgb2 : w1.heap.size ≠ b := Nat.ne_of_gt HS1.out.bl) | (have HZ3 : Hid (Rw w2 w0.heap.size (fun _ => (0 : Int))) := Rw.kp (by first | with_reducible exact HZ1.out | with_reducible exact HZ1.out.alloc _ | with_reducible exact HZ1.out.drew | with_reducible exact HZ1.out.drew.alloc _ | with_reducible exact (HZ1.out.alloc _).drew) hK2 hgb; have z0 := HZ3.out.cell (i := 0) (by omega); have z1 := HZ3.out.cell (i := 1) (by omega); have z2 := HZ3.out.cell (i := 2) (by omega); have z3 := HZ3.out.cell (i := 3) (by omega); have z4 := HZ3.out.cell (i := 4) (by omega); have zf := HZ3.out.fz;) | skip); clear hO hF hS2 hK2)))
    all_goals (try go_wp2)
    all_goals go_meet
    all_goals (first
      | (refine ⟨w2.heap.size, b, R, by with_reducible rfl, HO, ?_, ?_⟩; (exact Rw.new w2 R); (exact HS2.out.alloc _))
      | (refine ⟨w1.heap.size, b, R, by with_reducible rfl, HO, ?_, ?_⟩; (exact HZ2.out.put R); (exact HS2.out.put5 hT.out HZ2.out hs1 hgb2 R))
      | (refine ⟨w0.heap.size, b, R, by with_reducible rfl, HO, ?_, ?_⟩; (exact HZ3.out.put R); (exact HS2.out.put5 hT.out HZ3.out hs0 hgb R)))
  case rest =>
    clear HC HI a0 a1 a2 a3 HA0 HT0 hs0 hn0 hn0' HY0
    obtain ⟨x, b, R, rfl, HO, HR, HS⟩ := hcut
    have a0 := HS.out.ini.ask.c0
    have a1 := HS.out.ini.ask.c1
    have a2 := HS.out.ini.ask.c2
    have a3 := HS.out.ini.ask.c3
    have HX : Hid (Below w.heap.size w wc) := HS.out.ini.low
    by_cases hr : right s c
    · have HRR : Hid (decide (right s c) = true) := decide_eq_true hr
      have HRA : Hid (∀ X, Calls Tryd.prog 12 #[.int .i64 s, .int .i64 c, .int .i64 t, .int .i64 n] X fun e w' => e = .returned (.agg #[.int .i64 (R 0), .int .i64 (R 1), .int .i64 (R 2), .int .i64 (R 3), .int .i64 (R 4)]) ∧ Below X.heap.size X w') := fun X => by
        obtain ⟨B', h1, h2, h3, h5⟩ := bands_nat hr
        have e : B' = B := by have := HBN.out; rw [h1] at this; omega
        subst e
        refine (ralloc_at X s c t n B' (by unfold right at hr; omega) (by unfold right at hr; omega) (by omega) h3 h5).mono ?_
        rintro e w' ⟨R', rfl, hO', hb⟩
        obtain rfl := out_one h5 (by unfold right at hr; omega) hO' HO.out
        exact ⟨rfl, hb⟩
      have r0 := HR.out.cell (i := 0) (by omega)
      have r1 := HR.out.cell (i := 1) (by omega)
      have r2 := HR.out.cell (i := 2) (by omega)
      have r3 := HR.out.cell (i := 3) (by omega)
      have r4 := HR.out.cell (i := 4) (by omega)
      have l0 := HR.out.lt
      have l1 := HS.out.al
      go_wp2_with (go_at_call 11; refine (rright_any s c _).mono ?_; rw [HRR.out]; rintro e w4 ⟨rfl, hw⟩; obtain rfl := hw.symm; clear hw)
      refine wp_region_quiet_below (by kernel_rfl) (by kernel_rfl) ?_
      repeat (go_big_quiet_step ((go_at_call 12; refine Calls.regrown_of (HRA.out _))))
      refine wpQuiet_nil ?_
      intro _ hw'
      obtain ⟨⟨dq, osq⟩, hw''⟩ := hw'
      subst hw''
      go_wp2
      go_returns
      exact ⟨rfl, HX.out.trans (below_gr (Below.refl _ _) (Nat.le_refl _) _ _ |>.mono HX.out.size)⟩
    · have HRR : Hid (decide (right s c) = false) := decide_eq_false hr
      have hB0 : B = 0 := by have := HBN.out; unfold bandsF at this; rw [if_neg hr] at this; omega
      subst hB0
      obtain rfl := out_none HO.out
      go_wp2_with (first
        | (go_at_call 11; refine (rright_any s c _).mono ?_; rw [HRR.out]; rintro e w4 ⟨rfl, hw⟩; obtain rfl := hw.symm; clear hw)
        | (refine wl_load5 rfl _ rfl x (fun _ => 0) rfl HR.out ?_))
      go_returns
      exact ⟨rfl, HX.out⟩
end Go.Proofs.YthlbilfdeneajaaDoor
