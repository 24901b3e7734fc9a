/-
  The law AllocMore of layer 14 (alloc) as a walk: called at any input it returns true, and nothing that was there has turned.
-/
import Derived.Test.YthlbilfdeneajaaDoorAllocBegin
import Derived.Deep.CutBlock
namespace Go.Proofs.YthlbilfdeneajaaDoor
set_option linter.unusedVariables false
open Go.ChangeShapes Go.WideShapes Go.ChangeAt Go.RowKit
attribute [local go_sem] eql5 eql5x equal5 equal5x

section
variable {X : World} {p q : Nat}
theorem st_old (h : Rw X p (fun _ => 0)) : ∀ R, Sem.run Tryd.prog (storeCells ⟨p, 0, none⟩ (row5 R).toList) X = .ok () (X.setRow p (row5 R)) := fun R => store5 X p _ R h
theorem st_old_al (h : Rw X p (fun _ => 0)) : ∀ o R, Sem.run Tryd.prog (storeCells ⟨p, 0, none⟩ (row5 R).toList) (X.alloc o) = .ok () ((X.alloc o).setRow p (row5 R)) := fun o R => store5 _ p _ R (h.alloc o)
theorem st_old_row (h : Rw X q (fun _ => 0)) (hne : q ≠ p) : ∀ C R, Sem.run Tryd.prog (storeCells ⟨q, 0, none⟩ (row5 R).toList) (X.setRow p C) = .ok () ((X.setRow p C).setRow q (row5 R)) := fun C R => store5 _ q _ R (h.setRow_other hne C)
theorem st_fresh (X : World) : ∀ R, Sem.run Tryd.prog (storeCells ⟨X.heap.size, 0, none⟩ (row5 R).toList) (X.alloc (.cells #[.int .i64 0, .int .i64 0, .int .i64 0, .int .i64 0, .int .i64 0] 25)) = .ok () (X.alloc (.cells (row5 R) 25)) := fun R => store5_new X R
theorem st_fresh_row (hne : p ≠ X.heap.size) : ∀ C R, Sem.run Tryd.prog (storeCells ⟨X.heap.size, 0, none⟩ (row5 R).toList) ((X.alloc (.cells #[.int .i64 0, .int .i64 0, .int .i64 0, .int .i64 0, .int .i64 0] 25)).setRow p C) = .ok () (((X.alloc (.cells #[.int .i64 0, .int .i64 0, .int .i64 0, .int .i64 0, .int .i64 0] 25)).setRow p C).setRow X.heap.size (row5 R)) := fun C R => store5 _ _ _ R ((Rw.newZ X).setRow_other (fun e => hne e.symm) C)
theorem st_two1 (X : World) : ∀ R, Sem.run Tryd.prog (storeCells ⟨X.heap.size, 0, none⟩ (row5 R).toList) ((X.alloc (.cells #[.int .i64 0, .int .i64 0, .int .i64 0, .int .i64 0, .int .i64 0] 25)).alloc (.cells #[.int .i64 0, .int .i64 0, .int .i64 0, .int .i64 0, .int .i64 0] 25)) = .ok () (((X.alloc (.cells #[.int .i64 0, .int .i64 0, .int .i64 0, .int .i64 0, .int .i64 0] 25)).alloc (.cells #[.int .i64 0, .int .i64 0, .int .i64 0, .int .i64 0, .int .i64 0] 25)).setRow X.heap.size (row5 R)) := fun R => store5 _ _ _ R ((Rw.newZ X).alloc _)
theorem st_two2 (X : World) : ∀ R, Sem.run Tryd.prog (storeCells ⟨X.heap.size + 1, 0, none⟩ (row5 R).toList) ((X.alloc (.cells #[.int .i64 0, .int .i64 0, .int .i64 0, .int .i64 0, .int .i64 0] 25)).alloc (.cells #[.int .i64 0, .int .i64 0, .int .i64 0, .int .i64 0, .int .i64 0] 25)) = .ok () (((X.alloc (.cells #[.int .i64 0, .int .i64 0, .int .i64 0, .int .i64 0, .int .i64 0] 25)).alloc (.cells #[.int .i64 0, .int .i64 0, .int .i64 0, .int .i64 0, .int .i64 0] 25)).setRow (X.heap.size + 1) (row5 R)) := fun R => store5 _ _ _ R (Rw.new2Z X _)
theorem st_two12 (X : World) : ∀ C R, Sem.run Tryd.prog (storeCells ⟨X.heap.size + 1, 0, none⟩ (row5 R).toList) (((X.alloc (.cells #[.int .i64 0, .int .i64 0, .int .i64 0, .int .i64 0, .int .i64 0] 25)).alloc (.cells #[.int .i64 0, .int .i64 0, .int .i64 0, .int .i64 0, .int .i64 0] 25)).setRow X.heap.size C) = .ok () ((((X.alloc (.cells #[.int .i64 0, .int .i64 0, .int .i64 0, .int .i64 0, .int .i64 0] 25)).alloc (.cells #[.int .i64 0, .int .i64 0, .int .i64 0, .int .i64 0, .int .i64 0] 25)).setRow X.heap.size C).setRow (X.heap.size + 1) (row5 R)) := fun C R => store5 _ _ _ R ((Rw.new2Z X _).setRow_other (Nat.ne_of_gt (Nat.lt_succ_self _)) C)
theorem st_two21 (X : World) : ∀ C R, Sem.run Tryd.prog (storeCells ⟨X.heap.size, 0, none⟩ (row5 R).toList) (((X.alloc (.cells #[.int .i64 0, .int .i64 0, .int .i64 0, .int .i64 0, .int .i64 0] 25)).alloc (.cells #[.int .i64 0, .int .i64 0, .int .i64 0, .int .i64 0, .int .i64 0] 25)).setRow (X.heap.size + 1) C) = .ok () ((((X.alloc (.cells #[.int .i64 0, .int .i64 0, .int .i64 0, .int .i64 0, .int .i64 0] 25)).alloc (.cells #[.int .i64 0, .int .i64 0, .int .i64 0, .int .i64 0, .int .i64 0] 25)).setRow (X.heap.size + 1) C).setRow X.heap.size (row5 R)) := fun C R => store5 _ _ _ R (((Rw.newZ X).alloc _).setRow_other (Nat.ne_of_lt (Nat.lt_succ_self _)) C)
theorem c_alloc {o : Obj} {b i : Nat} {v : Value} (h : X.cell? ⟨b, i, none⟩ = some v) : (X.alloc o).cell? ⟨b, i, none⟩ = some v := by
  rw [World.cell?_of_block (w := X) (heap_alloc_old X o (block_lt_of_cell h))]; exact h
theorem c_row {C : Array Value} {b i : Nat} {v : Value} (hne : ¬ b = p) (h : X.cell? ⟨b, i, none⟩ = some v) : (X.setRow p C).cell? ⟨b, i, none⟩ = some v := by
  rw [World.cell?_of_block (w := X) (setRow_same hne)]; exact h
theorem c_drew {b i : Nat} {v : Value} (h : X.cell? ⟨b, i, none⟩ = some v) : X.drew.cell? ⟨b, i, none⟩ = some v := h
theorem low_alloc {w : World} (h : Below w.heap.size w X) (o : Obj) : Below w.heap.size w (X.alloc o) := h.alloc h.size o
end

set_option maxHeartbeats 40000000 in
theorem amore_at (w : World) (s c t n m : Int) (m0 : 0 ≤ m) (m1 : m ≤ 65535) (n0 : n ≤ 1099511627776) (n1 : -9223372036854775808 ≤ n) (hT : Hid (WTab w)) :
    Calls Tryd.prog 6 #[.agg #[.int .i64 s, .int .i64 c, .int .i64 t, .int .i64 n], .int .u16 m] w fun e w' => e = .returned (.bool true) ∧ Below w.heap.size w w' := by
  obtain ⟨B, hB0, hB3, hB5⟩ := rt_bands s c
  have HBN : Hid (bandsF (rtS s) (rtC c) = B) := hB0
  clear hB0
  go_enter Tryd.func6, Tryd.ntmps6
  go_wp2_with fail
  refine (awake14 _ (hT.out.below (by go_grown))).mono ?_
  rintro e w0 ⟨rfl, hb0⟩
  have HY0 : Hid (Below w.heap.size w w0) := below_al hb0
  have HA0 : Hid (AskAt w0 w.heap.size s c t n) := (AskAt.new w s c t n).below hb0
  have hs0 : w.heap.size < w0.heap.size := HA0.out.lt
  have HT0 : Hid (WTab w0) := hT.out.below HY0.out
  clear hb0
  have a0 := HA0.out.c0
  have a1 := HA0.out.c1
  have a2 := HA0.out.c2
  have a3 := HA0.out.c3
  go_upto_region 5 with fail
  have hn0 : ¬ w.heap.size = w0.heap.size := Nat.ne_of_lt hs0
  have hn0' : ¬ w0.heap.size = w.heap.size := Nat.ne_of_gt hs0
  have HI : Hid (Ini w w0 s c t n) := ⟨HA0.out, HY0.out, HT0.out⟩
  go_cut [5, 6] (fun p q wc => ∃ b g : Nat, p = .pointer (some ⟨b, 0, none⟩) ∧ q = .pointer (some ⟨g, 0, none⟩) ∧ Hid (St w wc s c t n b) ∧ Hid (Md wc g (rtS s) (rtC c)) ∧ g ≠ b)
  case first =>
    go_region_held3 (fun w' => w'.cell? ⟨w.heap.size, 0, none⟩ = some (.int .i64 s) ∧ w'.cell? ⟨w.heap.size, 1, none⟩ = some (.int .i64 c) ∧ w'.cell? ⟨w.heap.size, 2, none⟩ = some (.int .i64 t) ∧ w'.cell? ⟨w.heap.size, 3, none⟩ = some (.int .i64 n)) (first | exact ⟨a0, a1, a2, a3⟩ | exact ⟨b0, b1, b2, b3⟩ | exact ⟨c0, c1, c2, c3⟩ | go_keep | (simp [go_sem]; done)) ((first
      | (go_at_call 10; refine (st_new (by first | exact HI.out | exact HI.out.drewN _ | exact (HI.out.drewN _).alloc _ | exact HI.out.alloc _ | exact (HI.out.alloc _).drewN _)).mono ?_; rintro e w1 ⟨b, rfl, hS1, hK1, hle1⟩; have HS1 : Hid (St w w1 s c t n b) := hS1; have hs1 := hS1.al; have hn1 : ¬ w.heap.size = w1.heap.size := Nat.ne_of_lt hs1; have hn1' : ¬ w1.heap.size = w.heap.size := Nat.ne_of_gt hs1; have b0 := hS1.ini.ask.c0; have b1 := hS1.ini.ask.c1; have b2 := hS1.ini.ask.c2; have b3 := hS1.ini.ask.c3; (first | (have hm1 : Md _ w0.heap.size 0 0 ∧ _ := ⟨Md.new _ 0 0, hK1⟩; have HZ1 : Hid (Md w1 w0.heap.size 0 0) := Md.kq hm1.1 hK1; have hgb : w0.heap.size ≠ b := Nat.ne_of_lt (Nat.lt_of_lt_of_le hm1.1.lt hle1); clear hm1) | (have HZ1 : Hid (Md w1 w0.heap.size 0 0) := Md.kq ((Md.new _ 0 0).drewN 1) hK1; have hgb : w0.heap.size ≠ b := Nat.ne_of_lt (Nat.lt_of_lt_of_le (Md.lt ((Md.new w0 0 0).drewN 1)) hle1)) | skip); clear hS1 hK1 hle1)
      | (go_at_call 18; refine (st_rt (w := w) (by first | exact HS1.out | exact HS1.out.drewN _ | exact (HS1.out.drewN _).alloc _ | exact HS1.out.alloc _ | exact (HS1.out.alloc _).drewN _)).mono ?_; rintro e w2 ⟨rfl, hS2, hK2⟩; have HS2 : Hid (St w w2 s c t n b) := hS2; have hs2 := hS2.al; have c0 := hS2.ini.ask.c0; have c1 := hS2.ini.ask.c1; have c2 := hS2.ini.ask.c2; have c3 := hS2.ini.ask.c3; (first | (have HZ2 : Hid (Md w2 w1.heap.size 0 0) := (by first | exact Md.kq (Md.new _ 0 0) hK2 | exact Md.kq ((Md.new _ 0 0).drewN _) hK2); have z0 := HZ2.out.cs; have z1 := HZ2.out.cc; have zf := HZ2.out.fz; have hgb2 : w1.heap.size ≠ b := Nat.ne_of_gt HS1.out.bl) | (have HZ3 : Hid (Md w2 w0.heap.size 0 0) := (by first | exact Md.kq (HZ1.out.drewN _) hK2 | exact Md.kq HZ1.out hK2); have z0 := HZ3.out.cs; have z1 := HZ3.out.cc; have zf := HZ3.out.fz) | skip); clear hS2 hK2)))
    all_goals (try go_wp2)
    all_goals go_meet
    all_goals (first
      | (refine ⟨b, w2.heap.size, rfl, by with_reducible rfl, ?_, ?_, Nat.ne_of_gt HS2.out.bl⟩; (exact HS2.out.alloc _); (exact Md.new w2 _ _))
      | (refine ⟨b, w1.heap.size, rfl, by with_reducible rfl, ?_, ?_, hgb2⟩; (exact HS2.out.put hT.out HZ2.out hs1 hgb2 _ _); (exact HZ2.out.put _ _))
      | (refine ⟨b, w0.heap.size, rfl, by with_reducible rfl, ?_, ?_, hgb⟩; (exact HS2.out.put hT.out HZ3.out hs0 hgb _ _); (exact HZ3.out.put _ _)))
  case rest =>
    clear HI a0 a1 a2 a3 HA0 HT0 hs0 hn0 hn0' HY0
    obtain ⟨b, g, rfl, rfl, HS, HM, hg⟩ := hcut
    have hsc := HS.out.al
    have hbc : wc.heap.size ≠ b := Nat.ne_of_gt HS.out.bl
    have hbc' : wc.heap.size + 1 ≠ b := Nat.ne_of_gt (Nat.lt_succ_of_lt HS.out.bl)
    have hnc : ¬ w.heap.size = wc.heap.size := Nat.ne_of_lt hsc
    have hnc' : ¬ wc.heap.size = w.heap.size := Nat.ne_of_gt hsc
    have hmc := HM.out.lt
    have hqc : ¬ g = wc.heap.size := Nat.ne_of_lt hmc
    have hqc' : ¬ wc.heap.size = g := Nat.ne_of_gt hmc
    have hpc : ¬ w.heap.size = wc.heap.size + 1 := Nat.ne_of_lt (Nat.lt_succ_of_lt hsc)
    have hpc' : ¬ wc.heap.size + 1 = w.heap.size := Nat.ne_of_gt (Nat.lt_succ_of_lt hsc)
    have hrc : ¬ g = wc.heap.size + 1 := Nat.ne_of_lt (Nat.lt_succ_of_lt hmc)
    have hrc' : ¬ wc.heap.size + 1 = g := Nat.ne_of_gt (Nat.lt_succ_of_lt hmc)
    have a0 := HS.out.ini.ask.c2
    have a1 := HS.out.ini.ask.c3
    have a2 := HM.out.cs
    have a3 := HM.out.cc
    have E2 : Hid (IntKind.i64.wrap (n + IntKind.i64.wrap m) = n + m) := by show _ = _; rw [IntWalk.i64_in m (by omega)]; exact IntWalk.i64_in _ (by omega)
    have HC1 : Hid (∀ X, St w X s c t n b → Calls Tryd.prog 9 #[.pointer (some ⟨b, 0, none⟩), (.agg #[.int .i64 (rtS s), .int .i64 (rtC c)]), .int .i64 t, .int .i64 n] X fun e w' => ∃ R, e = .returned (.agg (row5 R)) ∧ Out B (rtC c) t n R ∧ Fit B R ∧ St w w' s c t n b ∧ Kp X w' b) := fun X h => st_all _ _ t n B HBN hB5 h
    have HC2 : Hid (∀ X, St w X s c t n b → Calls Tryd.prog 9 #[.pointer (some ⟨b, 0, none⟩), (.agg #[.int .i64 (rtS s), .int .i64 (rtC c)]), .int .i64 t, .int .i64 (n + m)] X fun e w' => ∃ R, e = .returned (.agg (row5 R)) ∧ Out B (rtC c) t (n + m) R ∧ Fit B R ∧ St w w' s c t n b ∧ Kp X w' b) := fun X h => st_all _ _ t (n + m) B HBN hB5 h
    go_upto_region 6 with fail
    go_cut [7, 8] (fun p q wd => ∃ (x y : Nat) (R1 R2 : Nat → Int), p = .pointer (some ⟨x, 0, none⟩) ∧ q = .pointer (some ⟨y, 0, none⟩) ∧ Hid (Out B (rtC c) t n R1) ∧ Hid (Out B (rtC c) t (n + m) R2) ∧ Hid (Rw wd x R1) ∧ Hid (Rw wd y R2) ∧ Hid (Below w.heap.size w wd))
    case first =>
      go_region_held3 (fun w' => w'.cell? ⟨w.heap.size, 2, none⟩ = some (.int .i64 t) ∧ w'.cell? ⟨w.heap.size, 3, none⟩ = some (.int .i64 n) ∧ w'.cell? ⟨g, 0, none⟩ = some (.int .i64 (rtS s)) ∧ w'.cell? ⟨g, 1, none⟩ = some (.int .i64 (rtC c))) (first | with_reducible exact ⟨a0, a1, a2, a3⟩ | with_reducible exact ⟨b0, b1, b2, b3⟩ | with_reducible exact ⟨d0, d1, d2, d3⟩ | (refine ⟨?_, ?_, ?_, ?_⟩ <;> (repeat (first | (with_reducible assumption) | (with_reducible refine c_alloc ?_) | (with_reducible refine c_row (by assumption) ?_) | (with_reducible refine c_drew ?_))))) ((first
        | (go_at_call 9; have hx5 := HS5; clear hx5; rw [E2.out]; refine (HC2.out _ (by first | with_reducible exact HS5.out | with_reducible exact HS5.out.alloc _ | with_reducible exact (HS5.out.alloc _).alloc _ | with_reducible exact HS5.out.drew | with_reducible exact HS5.out.drew.alloc _ | with_reducible exact (HS5.out.drew.alloc _).alloc _ | with_reducible exact (HS5.out.alloc _).drew | with_reducible exact ((HS5.out.alloc _).alloc _).drew)).mono ?_; rintro e w6 ⟨R2, rfl, hO2, hF2, hS6, hK6⟩; have HS6 : Hid (St w w6 s c t n b) := hS6; have HO2 : Hid (Out B (rtC c) t (n + m) R2) := hO2; have hs6 := hS6.al; have hn6 : ¬ w.heap.size = w6.heap.size := Nat.ne_of_lt hs6; have d0 := hS6.ini.ask.c2; have d1 := hS6.ini.ask.c3; have HM6 : Hid (Md w6 g (rtS s) (rtC c)) := Md.kp (by first | with_reducible exact HM5.out | with_reducible exact HM5.out.alloc _ | with_reducible exact (HM5.out.alloc _).alloc _ | with_reducible exact HM5.out.drew | with_reducible exact HM5.out.drew.alloc _ | with_reducible exact (HM5.out.drew.alloc _).alloc _ | with_reducible exact (HM5.out.alloc _).drew | with_reducible exact ((HM5.out.alloc _).alloc _).drew) hK6 hg; have d2 := HM6.out.cs; have d3 := HM6.out.cc; have hm6 := HM6.out.lt; have hq6 : ¬ g = w6.heap.size := Nat.ne_of_lt hm6; have hp6 : ¬ w.heap.size = w6.heap.size + 1 := Nat.ne_of_lt (Nat.lt_succ_of_lt hs6); have hr6 : ¬ g = w6.heap.size + 1 := Nat.ne_of_lt (Nat.lt_succ_of_lt hm6); (first | (have HC : Hid (Rw w6 w5.heap.size (fun _ => (0 : Int))) := Rw.kp (by first | with_reducible exact Rw.newZ _ | with_reducible exact (Rw.newZ _).alloc _ | with_reducible exact Rw.newZ' _ | with_reducible exact (Rw.newZ' _).alloc _ | with_reducible exact (Rw.newZ _).drew | with_reducible exact ((Rw.newZ _).alloc _).drew) hK6 hb5; have zc1 := st_old HC.out; have zc2 := st_old_al HC.out; have zcl := HC.out.lt; have zc3 := st_fresh_row (X := w6) (Nat.ne_of_lt zcl)) | skip); (first | (have HD : Hid (Rw w6 (w5.heap.size + 1) (fun _ => (0 : Int))) := Rw.kp (by first | with_reducible exact Rw.new2Z _ _ | with_reducible exact Rw.new2Z' _ _ | with_reducible exact (Rw.new2Z _ _).drew) hK6 hb5'; have zd1 := st_old HD.out; have zd2 := st_old_al HD.out; have zdl := HD.out.lt; have zd3 := st_fresh_row (X := w6) (Nat.ne_of_lt zdl); have zcd := st_old_row HC.out (p := w5.heap.size + 1) (Nat.ne_of_lt (Nat.lt_succ_self _)); have zdc := st_old_row HD.out (p := w5.heap.size) (Nat.ne_of_gt (Nat.lt_succ_self _))) | skip); (first | (have HA' : Hid (Rw w6 wc.heap.size (fun _ => (0 : Int))) := Rw.kp (by first | with_reducible exact HA.out | with_reducible exact HA.out.alloc _ | with_reducible exact (HA.out.alloc _).alloc _ | with_reducible exact HA.out.drew | with_reducible exact HA.out.drew.alloc _ | with_reducible exact (HA.out.drew.alloc _).alloc _ | with_reducible exact (HA.out.alloc _).drew | with_reducible exact ((HA.out.alloc _).alloc _).drew) hK6 hbc; have za1 := st_old HA'.out; have za2 := st_old_al HA'.out; have zal := HA'.out.lt; have za3 := st_fresh_row (X := w6) (Nat.ne_of_lt zal); (first | (have zac := st_old_row HA'.out (p := w5.heap.size) (Nat.ne_of_lt hA5); have zca := st_old_row HC.out (p := wc.heap.size) (Nat.ne_of_gt hA5)) | skip)) | skip); (first | (have HB' : Hid (Rw w6 (wc.heap.size + 1) (fun _ => (0 : Int))) := Rw.kp (by first | with_reducible exact HB.out | with_reducible exact HB.out.alloc _ | with_reducible exact (HB.out.alloc _).alloc _ | with_reducible exact HB.out.drew | with_reducible exact HB.out.drew.alloc _ | with_reducible exact (HB.out.drew.alloc _).alloc _ | with_reducible exact (HB.out.alloc _).drew | with_reducible exact ((HB.out.alloc _).alloc _).drew) hK6 hbc'; have zb1 := st_old HB'.out; have zb2 := st_old_al HB'.out; have zbl := HB'.out.lt; have zb3 := st_fresh_row (X := w6) (Nat.ne_of_lt zbl); have zab := st_old_row HA'.out (p := wc.heap.size + 1) (Nat.ne_of_lt (Nat.lt_succ_self _)); have zba := st_old_row HB'.out (p := wc.heap.size) (Nat.ne_of_gt (Nat.lt_succ_self _))) | skip); have zn := st_fresh w6; have zt1 := st_two1 w6; have zt2 := st_two2 w6; have zt3 := st_two12 w6; have zt4 := st_two21 w6; clear hO2 hF2 hS6 hK6)
        | (go_at_call 9; (fail_if_success (have hx5 := HS5)); refine (HC1.out _ (by first | with_reducible exact HS.out | with_reducible exact HS.out.alloc _ | with_reducible exact (HS.out.alloc _).alloc _ | with_reducible exact HS.out.drew | with_reducible exact HS.out.drew.alloc _ | with_reducible exact (HS.out.drew.alloc _).alloc _ | with_reducible exact (HS.out.alloc _).drew | with_reducible exact ((HS.out.alloc _).alloc _).drew)).mono ?_; rintro e w5 ⟨R1, rfl, hO1, hF1, hS5, hK5⟩; have HS5 : Hid (St w w5 s c t n b) := hS5; have HO1 : Hid (Out B (rtC c) t n R1) := hO1; have hs5 := hS5.al; have hb5 : w5.heap.size ≠ b := Nat.ne_of_gt hS5.bl; have hb5' : w5.heap.size + 1 ≠ b := Nat.ne_of_gt (Nat.lt_succ_of_lt hS5.bl); have hn5 : ¬ w.heap.size = w5.heap.size := Nat.ne_of_lt hs5; have b0 := hS5.ini.ask.c2; have b1 := hS5.ini.ask.c3; have HM5 : Hid (Md w5 g (rtS s) (rtC c)) := Md.kp (by first | with_reducible exact HM.out | with_reducible exact HM.out.alloc _ | with_reducible exact (HM.out.alloc _).alloc _ | with_reducible exact HM.out.drew | with_reducible exact HM.out.drew.alloc _ | with_reducible exact (HM.out.drew.alloc _).alloc _ | with_reducible exact (HM.out.alloc _).drew | with_reducible exact ((HM.out.alloc _).alloc _).drew) hK5 hg; have b2 := HM5.out.cs; have b3 := HM5.out.cc; have hm5 := HM5.out.lt; have hq5 : ¬ g = w5.heap.size := Nat.ne_of_lt hm5; have hp5 : ¬ w.heap.size = w5.heap.size + 1 := Nat.ne_of_lt (Nat.lt_succ_of_lt hs5); have hr5 : ¬ g = w5.heap.size + 1 := Nat.ne_of_lt (Nat.lt_succ_of_lt hm5); (first | (have HA : Hid (Rw w5 wc.heap.size (fun _ => (0 : Int))) := Rw.kp (by first | with_reducible exact Rw.newZ _ | with_reducible exact (Rw.newZ _).alloc _ | with_reducible exact Rw.newZ' _ | with_reducible exact (Rw.newZ' _).alloc _ | with_reducible exact (Rw.newZ _).drew | with_reducible exact ((Rw.newZ _).alloc _).drew) hK5 hbc; have hA5 := HA.out.lt) | skip); (first | (have HB : Hid (Rw w5 (wc.heap.size + 1) (fun _ => (0 : Int))) := Rw.kp (by first | with_reducible exact Rw.new2Z _ _ | with_reducible exact Rw.new2Z' _ _ | with_reducible exact (Rw.new2Z _ _).drew) hK5 hbc') | skip); clear hO1 hF1 hS5 hK5)))
      all_goals (try go_wp2)
      all_goals go_meet
      all_goals (refine ⟨_, _, R1, R2, rfl, rfl, HO1, HO2, ?_, ?_, ?_⟩)
      all_goals (first
        | (show Rw _ _ _; (repeat' (first | (with_reducible exact Rw.newZ _) | (with_reducible exact Rw.new2Z _ _) | (with_reducible exact Rw.new _ _) | (with_reducible exact HA'.out) | (with_reducible exact HB'.out) | (with_reducible exact HC.out) | (with_reducible exact HD.out) | (with_reducible refine Rw.setRow (f := fun _ => 0) ?_ _) | (with_reducible refine Rw.setRow_other ?_ ?_ _) | (with_reducible refine Rw.alloc ?_ _) | omega)); done)
        | (show Below _ _ _; (repeat' (first | (with_reducible exact HS6.out.ini.low) | (with_reducible refine below_setRow5 ?_ ?_ _) | (with_reducible refine low_alloc ?_ _) | omega)); done))
    case rest =>
      clear HC1 HC2 a0 a1 a2 a3 HS HM
      obtain ⟨x, y, R1, R2, rfl, rfl, HO1, HO2, HX, HY, HL⟩ := hcut
      have hcc : 1 ≤ rtC c := by have := rt_right s c; unfold right at this; omega
      have HM : Hid (∀ i, R1 i ≤ R2 i) := out_more hB5 hcc (by omega) HO1.out HO2.out
      go_wp2_with fail
      go_loopw [35] (fun i wr => ∃ j d : Nat, j ≤ 5 ∧ i = .int .i64 j ∧ wr = wc.drewN d) (fun i _ => 5 - (intOf i).toNat)
      case atStart => exact ⟨0, 0, by omega, rfl, rfl⟩
      case round =>
        obtain ⟨j, d, hj, rfl, rfl⟩ := hrel
        by_cases hlt : j < 5
        · have hlt' : (j : Int) < 5 := by omega
          have j0 : (0 : Int) ≤ (j : Int) := by omega
          have c1 := HX.out.cell (i := j) hlt
          have c2 := HY.out.cell (i := j) hlt
          have hle : ¬ R2 j < R1 j := by have := HM.out j; omega
          have hle' : decide (R2 j < R1 j) = false := decide_eq_false hle
          go_wp2
          go_quiet (fail)
          go_wp2
          go_roundw
          case rel => exact ⟨j + 1, _, by omega, by go_num, rfl⟩
          case measure => simp [intOf]; omega
        · obtain rfl : j = 5 := by omega
          go_wp2
          go_returns
          exact ⟨rfl, low_drewN HL.out d⟩

set_option maxHeartbeats 1000000 in
theorem amore_big (w : World) (s c t n m : Int) (h : 1099511627776 < n) (hT : Hid (WTab w)) :
    Calls Tryd.prog 6 #[.agg #[.int .i64 s, .int .i64 c, .int .i64 t, .int .i64 n], .int .u16 m] w fun e w' => e = .returned (.bool true) ∧ Below w.heap.size w w' := by
  go_enter Tryd.func6, Tryd.ntmps6
  go_wp2_with fail
  refine (awake14 _ (hT.out.below (by go_grown))).mono ?_
  rintro e w0 ⟨rfl, hb0⟩
  have HY0 : Hid (Below w.heap.size w w0) := below_al hb0
  have a3 := ((AskAt.new w s c t n).below hb0).c3
  clear hb0
  go_wp2
  go_returns
  exact ⟨rfl, HY0.out⟩
theorem amore_law (s c t n m : Int) (w : World) (m0 : 0 ≤ m) (m1 : m ≤ 65535) (n1 : -9223372036854775808 ≤ n) (hT : Hid (WTab w)) :
    Calls Tryd.prog 6 #[.agg #[.int .i64 s, .int .i64 c, .int .i64 t, .int .i64 n], .int .u16 m] w fun e w' => e = .returned (.bool true) ∧ Below w.heap.size w w' := by
  by_cases h : 1099511627776 < n
  · exact amore_big w s c t n m h hT
  · exact amore_at w s c t n m m0 m1 (by omega) n1 hT
end Go.Proofs.YthlbilfdeneajaaDoor
