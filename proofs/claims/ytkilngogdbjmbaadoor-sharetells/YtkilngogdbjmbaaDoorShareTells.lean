/-
  The law ShareTells of layer 15 (share) as a walk: called at any input it returns true, and nothing that was there has turned.
-/
import Derived.Test.YtkilngogdbjmbaaDoorShareAwake
import Derived.Test.YtkilngogdbjmbaaDoorShareBegin
import Derived.Test.YtkilngogdbjmbaaDoorAllocRef
import Derived.Deep.CutBlock
namespace Go.Proofs.YtkilngogdbjmbaaDoor
set_option linter.unusedVariables false
set_option linter.unusedSimpArgs false
set_option maxRecDepth 20000
open Go.ChangeShapes Go.WideShapes Go.ChangeAt Go.RowKit
open Go.Sort (grow)
attribute [local go_sem] eql5 eql5x equal5 equal5x eql5xx equal5xx
attribute [local go_sem] cell?_gr frozen?_gr setCell_gr size_gr drew_gr drewN_gr redrawn_drew redrawn_drewN redrawn_redrawn gr_gr

theorem rall15 (X : World) (s c t n : Int) (R : Nat → Int) (h : Hid (∀ X, Calls Tryd.prog 30 #[.int .i64 s, .int .i64 c, .int .i64 t, .int .i64 n] X fun e w' => e = .returned (.agg #[.int .i64 (R 0), .int .i64 (R 1), .int .i64 (R 2), .int .i64 (R 3), .int .i64 (R 4)]) ∧ Below X.heap.size X w')) :
    Calls Tryd.prog 11 #[.int .i64 s, .int .i64 c, .int .i64 t, .int .i64 n] X fun e w' => e = .returned (.agg #[.int .i64 (R 0), .int .i64 (R 1), .int .i64 (R 2), .int .i64 (R 3), .int .i64 (R 4)]) ∧ Below X.heap.size X w' := by
  have hrow : #[.int .i64 (R 0), .int .i64 (R 1), .int .i64 (R 2), .int .i64 (R 3), .int .i64 (R 4)] = row5 R := rfl
  rw [hrow] at h ⊢
  have hb0 : Below X.heap.size X (X.alloc (.cells #[.int .i64 0, .int .i64 0, .int .i64 0, .int .i64 0, .int .i64 0] 25)) := gN_below (gN_alloc (gN_refl X) _)
  have HR0 : Hid (Rw (X.alloc (.cells #[.int .i64 0, .int .i64 0, .int .i64 0, .int .i64 0, .int .i64 0] 25)) X.heap.size (fun _ => 0)) := Rw.newZ X
  have HB0 : Hid (Below X.heap.size X (X.alloc (.cells #[.int .i64 0, .int .i64 0, .int .i64 0, .int .i64 0, .int .i64 0] 25))) := hb0
  clear hb0
  go_enter Tryd.func11, Tryd.ntmps11
  go_wp2_with (go_at_call 30; refine (h.out _).mono ?_; rintro e w2 ⟨rfl, hb2⟩; have HR2 : Hid (Rw w2 X.heap.size (fun _ => 0)) := HR0.out.below hb2; have HB2 : Hid (Below X.heap.size X w2) := HB0.out.trans (hb2.mono HB0.out.size); have hst := store5 w2 X.heap.size (fun _ => 0) R HR2.out; clear hb2)
  refine bodyPost_ret (results_cell_row rfl _ _ X.heap.size 25 (row5 R) (0, 0) _ rfl (HR2.out.setRow _) t5_under rfl (by rw [row5_size]; exact t5_info)) rfl ⟨rfl, ?_⟩
  exact below_setRow5 HB2.out (Nat.le_refl _) _

set_option maxHeartbeats 8000000 in
theorem stells_law (s c t n : Int) (w : World) (n1 : -9223372036854775808 ≤ n) (n2 : n ≤ 9223372036854775807) (hT : Hid (WTab w)) :
    Calls Tryd.prog 3 #[.agg #[.int .i64 s, .int .i64 c, .int .i64 t, .int .i64 n]] w fun e w' => e = .returned (.bool true) ∧ Below w.heap.size w w' := by
  obtain ⟨B, hB0, hB5⟩ : ∃ B : Nat, bandsF s c = B ∧ B ≤ 5 := ⟨(bandsF s c).toNat, by have := bands_bd s c; omega, by have := bands_bd s c; omega⟩
  have HBN : Hid (bandsF s c = B) := hB0
  clear hB0
  go_enter Tryd.func3, Tryd.ntmps3
  go_wp2_with fail
  refine (awake15 _ (hT.out.below (by go_grown))).mono ?_
  rintro e w0 ⟨rfl, hb0⟩
  have HY0 : Hid (Below w.heap.size w w0) := below_al hb0
  have HA0 : Hid (AskAt w0 w.heap.size s c t n) := (AskAt.new w s c t n).below hb0
  have hs0 : w.heap.size < w0.heap.size := HA0.out.lt
  have HT0 : Hid (WTab w0) := hT.out.below HY0.out
  clear hb0
  have a0 := HA0.out.c0
  have a1 := HA0.out.c1
  have a2 := HA0.out.c2
  have a3 := HA0.out.c3
  go_upto_region 3 with fail
  have hn0 : ¬ w.heap.size = w0.heap.size := Nat.ne_of_lt hs0
  have hn0' : ¬ w0.heap.size = w.heap.size := Nat.ne_of_gt hs0
  have HI : Hid (Ini w w0 s c t n) := ⟨HA0.out, HY0.out, HT0.out⟩
  have HC : Hid (∀ X b q, TS w X s c t n b q → Calls Tryd.prog 9 #[.pointer (some ⟨b, 0, none⟩), (.agg #[.int .i64 (s), .int .i64 (c)]), .int .i64 t, .int .i64 n] X fun e w' => ∃ R, e = .returned (.agg #[.int .i64 (R 0), .int .i64 (R 1), .int .i64 (R 2), .int .i64 (R 3), .int .i64 (R 4)]) ∧ SOut B c t n R ∧ TS w w' s c t n b q ∧ Kq X w') := fun X b q h => ts_all B HBN hB5 h
  go_cut [3] (fun p wc => ∃ (x : Nat) (R : Nat → Int), p = .pointer (some ⟨x, 0, none⟩) ∧ Hid (SOut B c t n R) ∧ Hid (Rw wc x R) ∧ Hid (Ini w wc s c t n))
  case first =>
    go_region_held3 (fun w' => w'.cell? ⟨w.heap.size, 0, none⟩ = some (.int .i64 s) ∧ w'.cell? ⟨w.heap.size, 1, none⟩ = some (.int .i64 c) ∧ w'.cell? ⟨w.heap.size, 2, none⟩ = some (.int .i64 t) ∧ w'.cell? ⟨w.heap.size, 3, none⟩ = some (.int .i64 n)) (first | with_reducible exact ⟨a0, a1, a2, a3⟩ | with_reducible exact ⟨b0, b1, b2, b3⟩ | with_reducible exact ⟨c0, c1, c2, c3⟩ | (simp [go_sem]; done) | go_keep) ((first
      | (go_at_call 8; refine (ts_new (by first | with_reducible exact HI.out | with_reducible exact HI.out.alloc _ | with_reducible exact HI.out.drew | with_reducible exact HI.out.drew.alloc _ | with_reducible exact (HI.out.alloc _).drew)).mono ?_; rintro e w1 ⟨b, q, rfl, hS1, hK1⟩; have HS1 : Hid (TS w w1 s c t n b q) := hS1; have hs1 := hS1.ini.ask.lt; have hn1 : ¬ w.heap.size = w1.heap.size := Nat.ne_of_lt hs1; have hn1' : ¬ w1.heap.size = w.heap.size := Nat.ne_of_gt hs1; have b0 := hS1.ini.ask.c0; have b1 := hS1.ini.ask.c1; have b2 := hS1.ini.ask.c2; have b3 := hS1.ini.ask.c3; (first | (have hz1 : Rw _ w0.heap.size (fun _ => (0 : Int)) ∧ Kq _ w1 := ⟨(by first | with_reducible exact Rw.newZ _ | with_reducible exact Rw.newZ' _ | with_reducible exact (Rw.newZ _).drew), hK1⟩; have HZ1 : Hid (Rw w1 w0.heap.size (fun _ => (0 : Int))) := Rw.kq hz1.1 hK1; clear hz1) | skip); clear hS1 hK1)
      | (go_at_call 9; refine (HC.out _ b q (by first | with_reducible exact HS1.out | with_reducible exact HS1.out.alloc _ | with_reducible exact HS1.out.drew | with_reducible exact HS1.out.drew.alloc _ | with_reducible exact (HS1.out.alloc _).drew)).mono ?_; rintro e w2 ⟨R, rfl, hO, hS2, hK2⟩; have HS2 : Hid (TS w w2 s c t n b q) := hS2; have HO : Hid (SOut B c t n R) := hO; have hs2 := hS2.ini.ask.lt; have hn2 : ¬ w.heap.size = w2.heap.size := Nat.ne_of_lt hs2; have hn2' : ¬ w2.heap.size = w.heap.size := Nat.ne_of_gt hs2; have c0 := hS2.ini.ask.c0; have c1 := hS2.ini.ask.c1; have c2 := hS2.ini.ask.c2; have c3 := hS2.ini.ask.c3; (first | (have HZ2 : Hid (Rw w2 w1.heap.size (fun _ => (0 : Int))) := Rw.kq (by first | with_reducible exact Rw.newZ _ | with_reducible exact Rw.newZ' _ | with_reducible exact (Rw.newZ _).drew) hK2; have z0 := HZ2.out.cell (i := 0) (by omega); have z1 := HZ2.out.cell (i := 1) (by omega); have z2 := HZ2.out.cell (i := 2) (by omega); have z3 := HZ2.out.cell (i := 3) (by omega); have z4 := HZ2.out.cell (i := 4) (by omega); have zf := HZ2.out.fz) | (have HZ3 : Hid (Rw w2 w0.heap.size (fun _ => (0 : Int))) := Rw.kq (by first | with_reducible exact HZ1.out | with_reducible exact HZ1.out.alloc _ | with_reducible exact HZ1.out.drew | with_reducible exact HZ1.out.drew.alloc _ | with_reducible exact (HZ1.out.alloc _).drew) hK2; have z0 := HZ3.out.cell (i := 0) (by omega); have z1 := HZ3.out.cell (i := 1) (by omega); have z2 := HZ3.out.cell (i := 2) (by omega); have z3 := HZ3.out.cell (i := 3) (by omega); have z4 := HZ3.out.cell (i := 4) (by omega); have zf := HZ3.out.fz;) | skip); clear hO hS2 hK2)))
    all_goals (try go_wp2)
    all_goals go_meet
    all_goals (first
      | (refine ⟨w2.heap.size, R, by with_reducible rfl, HO, ?_, ?_⟩; (exact Rw.new w2 R); (exact HS2.out.ini.alloc _))
      | (refine ⟨w1.heap.size, R, by with_reducible rfl, HO, ?_, ?_⟩; (exact HZ2.out.put R); (exact HS2.out.ini.put5 hT.out hs1 R))
      | (refine ⟨w0.heap.size, R, by with_reducible rfl, HO, ?_, ?_⟩; (exact HZ3.out.put R); (exact HS2.out.ini.put5 hT.out hs0 R)))
  case rest =>
    clear HC HI a0 a1 a2 a3 HA0 HT0 hs0 hn0 hn0' HY0
    obtain ⟨x, R, rfl, HO, HR, HS⟩ := hcut
    have a0 := HS.out.ask.c0
    have a1 := HS.out.ask.c1
    have a2 := HS.out.ask.c2
    have a3 := HS.out.ask.c3
    have HX : Hid (Below w.heap.size w wc) := HS.out.low
    by_cases hr : right s c
    · have HRR : Hid (decide (right s c) = true) := decide_eq_true hr
      have HRA : Hid (∀ X, Calls Tryd.prog 11 #[.int .i64 s, .int .i64 c, .int .i64 t, .int .i64 n] X fun e w' => e = .returned (.agg #[.int .i64 (R 0), .int .i64 (R 1), .int .i64 (R 2), .int .i64 (R 3), .int .i64 (R 4)]) ∧ Below X.heap.size X w') := fun X => rall15 X s c t n R (fun X => by
        obtain ⟨B', h1, h2, h3, h5⟩ := bands_nat hr
        have e : B' = B := by have := HBN.out; rw [h1] at this; omega
        subst e
        refine (ralloc_at X s c t n B' (by unfold right at hr; omega) (by unfold right at hr; omega) (by omega) h3 h5).mono ?_
        rintro e w' ⟨R', rfl, hO', hb⟩
        obtain rfl := out_one h5 (by unfold right at hr; omega) hO' (HO.out.out h5 (by unfold right at hr; omega))
        exact ⟨rfl, hb⟩)
      have r0 := HR.out.cell (i := 0) (by omega)
      have r1 := HR.out.cell (i := 1) (by omega)
      have r2 := HR.out.cell (i := 2) (by omega)
      have r3 := HR.out.cell (i := 3) (by omega)
      have r4 := HR.out.cell (i := 4) (by omega)
      have l0 := HR.out.lt
      have l1 := HS.out.ask.lt
      go_wp2_with (go_at_call 10; refine (rright_any s c _).mono ?_; rw [HRR.out]; rintro e w4 ⟨rfl, hw⟩; obtain rfl := hw.symm; clear hw)
      refine wp_region_quiet_below (by kernel_rfl) (by kernel_rfl) ?_
      repeat (go_big_quiet_step ((go_at_call 11; refine Calls.regrown_of (HRA.out _))))
      refine wpQuiet_nil ?_
      intro _ hw'
      obtain ⟨⟨dq, osq⟩, hw''⟩ := hw'
      subst hw''
      go_wp2
      go_returns
      exact ⟨rfl, HX.out.trans (below_gr (Below.refl _ _) (Nat.le_refl _) _ _ |>.mono HX.out.size)⟩
    · have HRR : Hid (decide (right s c) = false) := decide_eq_false hr
      have hB0 : B = 0 := by have := HBN.out; unfold bandsF at this; rw [if_neg hr] at this; omega
      subst hB0
      obtain rfl := HO.out.none
      go_wp2_with (first
        | (go_at_call 10; refine (rright_any s c _).mono ?_; rw [HRR.out]; rintro e w4 ⟨rfl, hw⟩; obtain rfl := hw.symm; clear hw)
        | (refine wl_load5 rfl _ rfl x (fun _ => 0) rfl HR.out ?_))
      go_returns
      exact ⟨rfl, HX.out⟩
end Go.Proofs.YtkilngogdbjmbaaDoor
