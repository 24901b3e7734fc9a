/-
  The law CountBooks of layer 10 (count) as a walk: called at any list of pairs and any number it returns true, and nothing that was there has turned.
-/
import Derived.Test.YtammpmfhflnbhaaCountRow
import Derived.Test.YtammpmfhflnbhaaModeOpen
import Derived.Deep.DeepCutAuto
namespace Go.Proofs.Ytammpmfhflnbhaa
set_option linter.unusedVariables false
open Go.ChangeShapes Go.WideShapes Go.ChangeAt Go.RowKit

theorem books_long (ao : Option Addr) (n cap : Nat) (m : Int) (w : World) (hn : 60 < n) : Calls Try.prog 5 #[.slice ao n cap, .int .i64 m] w fun e w' => e = .returned (.bool true) ∧ Below w.heap.size w w' := by
  have hn' : (60 : Int) < n := by omega
  go_enter Try.func5, Try.ntmps5
  go_wp2_with fail
  refine (awake10 _).mono ?_
  rintro e w0 ⟨rfl, hb0⟩
  go_wp2
  go_returns
  exact ⟨rfl, hb0⟩

theorem pair_at {w : World} {p : Nat} {x y : Int} {t : TypeId} (h : w.heap[p]? = some (.cells #[.int .i64 x, .int .i64 y] t (0, 0))) : w.cell? ⟨p, 0, none⟩ = some (.int .i64 x) ∧ w.cell? ⟨p, 1, none⟩ = some (.int .i64 y) :=
  ⟨cell_of_row w p 0 _ _ _ h, cell_of_row w p 1 _ _ _ h⟩
/-- What was asked is noted, but what has no numbers or no pulses. -/
theorem asked {S : Int → Int → Bool} (h : Ok S) (F G : Int) : un (un S F G) F G F G = decide (1 ≤ F ∧ F ≤ 16 ∧ 1 ≤ G ∧ G ≤ 32) := by
  rw [Bool.eq_iff_iff, un_true, un_true, bx_true, decide_eq_true_iff]
  constructor
  · rintro ((h1 | h1) | h1)
    · exact (h F G h1).1
    · omega
    · omega
  · intro h1
    right
    omega

set_option maxRecDepth 20000 in
set_option maxHeartbeats 4000000 in
theorem books_short (ao : Option Addr) (n cap : Nat) (f g : Nat → Int) (m : Int) (w : World) (hn : n ≤ 60) (hL : Hid (PairsAt w ao n f g)) (hW : Hid (∀ i, i < n → (Lit.int .i64 (f i)).wf = true ∧ (Lit.int .i64 (g i)).wf = true)) :
    Calls Try.prog 5 #[.slice ao n cap, .int .i64 m] w fun e w' => e = .returned (.bool true) ∧ Below w.heap.size w w' := by
  have hn' : ¬ (60 : Int) < n := by omega
  go_enter Try.func5, Try.ntmps5
  go_wp2_with fail
  refine (awake10 _).mono ?_
  rintro e w0 ⟨rfl, hb0⟩
  go_wp2_with fail
  refine (new_calls _).mono ?_
  rintro e w1 ⟨b, rfl, hB1, hb1, hle⟩
  have HL0 : Hid (PairsAt w0 ao n f g) := hL.out.keep hb0
  have HB0 : Hid (Below w.heap.size w w0) := hb0
  have HX1 : Hid (∃ (S : Int → Int → Bool) (mo : Option Nat), Ok S ∧ BkAt w1 b mo S ∧ ∀ q, mo = some q → w0.heap.size ≤ q) := ⟨noS, none, Ok.no, hB1, fun q e => by cases e⟩
  have HB1 : Hid (Below w0.heap.size w0 w1) := hb1
  clear hb0 hB1 hb1
  go_wp2_with fail
  go_loopw [22] (fun i wr => ∃ k : Nat, k ≤ n ∧ i = .int .i64 k ∧ Hid (∃ (S : Int → Int → Bool) (mo : Option Nat), Ok S ∧ BkAt wr b mo S ∧ ∀ q, mo = some q → w0.heap.size ≤ q) ∧ Hid (Below w0.heap.size w0 wr)) (fun i _ => n - (intOf i).toNat)
  case atStart => exact ⟨0, by omega, rfl, HX1, HB1⟩
  case round =>
    clear HX1 HB1
    obtain ⟨k, hk, rfl, HS, HB⟩ := hrel
    by_cases hlt : k < n
    · have hlt' : (k : Int) < (n : Int) := by omega
      obtain ⟨bl, off, rfl, x0, x1⟩ := (HL0.out.keep HB.out) k hlt
      obtain ⟨wf0, wf1⟩ := hW.out k hlt
      obtain ⟨F, hF⟩ : ∃ F, f k = F := ⟨_, rfl⟩
      obtain ⟨G, hG⟩ : ∃ G, g k = G := ⟨_, rfl⟩
      rw [hF] at x0 wf0
      rw [hG] at x1 wf1
      have WF0 : Hid ((Lit.int .i64 F).wf = true) := wf0
      have WF1 : Hid ((Lit.int .i64 G).wf = true) := wf1
      obtain ⟨Sk, mo, hOk, hBk, hmo⟩ := HS.out
      have hbr := hBk.lt
      have HOk : Hid (Ok Sk) := hOk
      have HBk : Hid (BkAt (wr.alloc (.cells #[.int .i64 F, .int .i64 G] 32)) b mo Sk) := hBk.alloc _
      have HMO : Hid (∀ q, mo = some q → w0.heap.size ≤ q) := hmo
      have HA : Hid (Below w0.heap.size w0 (wr.alloc (.cells #[.int .i64 F, .int .i64 G] 32))) := HB.out.alloc HB.out.size _
      clear hF hG wf0 wf1 hOk hBk hmo HS
      go_wp2_with fail
      refine (rv_any _ F G).mono ?_
      rintro e w2 ⟨rfl, hw⟩
      obtain rfl := hw.symm
      clear hw
      go_wp2_with fail
      refine (v_calls _ b mo Sk F G HBk HOk).mono ?_
      rintro e w2 ⟨rfl, mo2, hB2, hG2⟩
      have hp2 := hG2.cells HBk.out (heap_alloc_new wr _) (by omega)
      have p0 := (pair_at hp2).1
      have p1 := (pair_at hp2).2
      have HP2 : Hid (w2.heap[wr.heap.size]? = some (.cells #[.int .i64 F, .int .i64 G] 32 (0, 0))) := hp2
      have HB2 : Hid (BkAt w2 b mo2 (un Sk F G)) := hB2
      have HG2 : Hid (Gb (wr.alloc (.cells #[.int .i64 F, .int .i64 G] 32)) w2 b mo mo2) := hG2
      have HO2 : Hid (Ok (un Sk F G)) := HOk.out.un _ _
      clear hp2 hB2 hG2
      go_wp2_with fail
      refine (v_calls _ b mo2 (un Sk F G) F G HB2 HO2).mono ?_
      rintro e w3 ⟨rfl, mo3, hB3, hG3⟩
      have hp3 := hG3.cells HB2.out HP2.out (by omega)
      replace p0 := (pair_at hp3).1
      replace p1 := (pair_at hp3).2
      have HP3 : Hid (w3.heap[wr.heap.size]? = some (.cells #[.int .i64 F, .int .i64 G] 32 (0, 0))) := hp3
      have HB3 : Hid (BkAt w3 b mo3 (un (un Sk F G) F G)) := hB3
      have HG3 : Hid (Gb (wr.alloc (.cells #[.int .i64 F, .int .i64 G] 32)) w3 b mo mo3) := HG2.out.trans hG3
      have HO3 : Hid (Ok (un (un Sk F G) F G)) := HO2.out.un _ _
      have HY : Hid _ := asked HOk.out F G
      obtain ⟨S3, hS3⟩ : ∃ S3, un (un Sk F G) F G = S3 := ⟨_, rfl⟩
      rw [hS3] at HB3 HO3 HY
      clear hp3 hB3 hG3 hS3 HB2 HG2 HO2 HP2 HBk HOk
      obtain ⟨y, hy⟩ : ∃ y, S3 F G = y := ⟨_, rfl⟩
      rw [hy] at HY
      have HY3 : Hid (S3 F G = y) := hy
      clear hy
      go_upto_region 12 with fail
      go_cut [9] (fun v wc => v = .bool y ∧ w3 = wc)
      case first =>
        by_cases a1 : 1 ≤ F
        · by_cases a2 : F ≤ 16
          · by_cases a3 : 1 ≤ G
            · by_cases a4 : G ≤ 32
              · go_wp2
                go_meet
                exact ⟨by rw [HY.out, decide_eq_true (by omega)], rfl⟩
              · have a5 : decide (G ≤ 32) = false := decide_eq_false a4
                go_wp2
                go_meet
                exact ⟨by rw [HY.out, decide_eq_false (by omega)], rfl⟩
            · go_wp2
              go_meet
              exact ⟨by rw [HY.out, decide_eq_false (by omega)], rfl⟩
          · go_wp2
            go_meet
            exact ⟨by rw [HY.out, decide_eq_false (by omega)], rfl⟩
        · go_wp2
          go_meet
          exact ⟨by rw [HY.out, decide_eq_false (by omega)], rfl⟩
      case rest =>
        obtain ⟨rfl, rfl⟩ := hcut
        go_wp2_with fail
        refine (has_any _ b mo3 S3 F G WF0 WF1 HB3).mono ?_
        rw [HY3.out]
        rintro e w4 ⟨rfl, hG4⟩
        have hp4 := (hG4.block _ (Array.getElem?_eq_some_iff.1 HP3.out).1 (by simp)).trans HP3.out
        replace p0 := (pair_at hp4).1
        replace p1 := (pair_at hp4).2
        have HP4 : Hid (w4.heap[wr.heap.size]? = some (.cells #[.int .i64 F, .int .i64 G] 32 (0, 0))) := hp4
        have HB4 : Hid (BkAt w4 b mo3 S3) := HB3.out.keep hG4
        have HG4 : Hid (Gb (wr.alloc (.cells #[.int .i64 F, .int .i64 G] 32)) w4 b mo mo3) := HG3.out.trans (Gb.grown hG4 _ _)
        clear hp4 hG4 HB3 HG3 HP3 HY HY3
        have hyy : (y != y) = false := by simp
        go_wp2_with fail
        by_cases hF : 0 ≤ F ∧ F ≤ 16
        · refine (row_any _ b mo3 S3 F m hF.1 hF.2 HB4 HO3).mono ?_
          rintro e w5 ⟨v, S5, mo5, rfl, hW5, hO5, hB5, hG5⟩
          have hp5 := hG5.cells HB4.out HP4.out (by omega)
          replace p0 := (pair_at hp5).1
          replace p1 := (pair_at hp5).2
          have hr0 : 0 < rowN m := by unfold rowN; omega
          have hr1 : rowN m ≤ 33 := by unfold rowN; split; omega; split <;> omega
          obtain ⟨gr, cr, rfl, _, _, hc1, hc2⟩ := hW5.form hr0
          have HW5 : Hid (OwnN w5 w4.heap.size 23 .u64 (.slice (some ⟨gr, 0, none⟩) (rowN m) cr) (rowN m) (fun j => vI F j)) := hW5
          have HX : Hid (∃ (S : Int → Int → Bool) (mo : Option Nat), Ok S ∧ BkAt w5 b mo S ∧ ∀ q, mo = some q → w0.heap.size ≤ q) := ⟨S5, mo5, hO5, hB5, (HG4.out.trans hG5).lo (HA.out.size) HMO.out⟩
          have HZ : Hid (Below w0.heap.size w0 w5) := HA.out.trans ((HG4.out.trans hG5).below hle HA.out.size HMO.out)
          clear hp5 hW5 hO5 hB5 hG5 HB4 HG4 HP4 HO3
          go_upto_region 16 with fail
          go_cut [11] (fun v wc => v = .int .i64 (rowN m : Nat) ∧ w5 = wc)
          case first =>
            by_cases m0 : m < 0
            · have m1 : ¬ 32 < m := by omega
              have e1 : Hid (rowN m = 1) := by show rowN m = 1; unfold rowN; rw [if_pos m0]
              go_wp2
              go_meet
              exact ⟨by rw [e1.out]; rfl, rfl⟩
            · by_cases m2 : 32 < m
              · have e1 : Hid (rowN m = 33) := by show rowN m = 33; unfold rowN; rw [if_neg (by omega), if_pos m2]
                go_wp2
                go_meet
                exact ⟨by rw [e1.out]; rfl, rfl⟩
              · have e1 : Hid ((rowN m : Int) = m + 1) := by show (rowN m : Int) = m + 1; unfold rowN; rw [if_neg (by omega), if_neg m2]; omega
                have m3 : 0 ≤ m := by omega
                have m4 : m ≤ 32 := by omega
                go_wp2
                go_meet
                exact ⟨by rw [e1.out], rfl⟩
          case rest =>
            obtain ⟨rfl, rfl⟩ := hcut
            obtain ⟨R, hR⟩ : ∃ R, rowN m = R := ⟨_, rfl⟩
            rw [hR] at HW5 hr0 hr1 hc1 ⊢
            obtain ⟨f0, f1⟩ := hF
            have f2 : ¬ F < 0 := by omega
            have f3 : ¬ 16 < F := by omega
            have f4 : decide (16 < F) = false := decide_eq_false f3
            clear hR
            go_wp2_with fail
            go_loopw [99] (fun i wq => ∃ q : Nat, q ≤ R ∧ i = .int .i64 q ∧ w5 = wq) (fun i _ => R - (intOf i).toNat)
            case atStart => exact ⟨0, by omega, rfl, rfl⟩
            case round =>
              obtain ⟨q, hq, rfl, rfl⟩ := hrel
              by_cases hq1 : q < R
              · have hq1' : (q : Int) < (R : Int) := by omega
                have cq := HW5.out.cell hq1
                go_wp2_with fail
                refine (rv_any _ F q).mono ?_
                rintro e w6 ⟨rfl, hw⟩
                obtain rfl := hw.symm
                clear hw
                go_wp2
                go_roundw
                case rel => exact ⟨q + 1, by omega, by go_num, by trivial⟩
                case measure => simp [intOf]; omega
              · obtain rfl : q = R := by omega
                go_wp2
                go_roundw
                case rel => exact ⟨k + 1, by omega, by go_num, HX, HZ⟩
                case measure => simp [intOf]; omega
        · refine (row_out _ b F m hF).mono ?_
          rintro e w5 ⟨rfl, hw⟩
          obtain rfl := hw.symm
          clear hw
          have HX : Hid (∃ (S : Int → Int → Bool) (mo : Option Nat), Ok S ∧ BkAt w4 b mo S ∧ ∀ q, mo = some q → w0.heap.size ≤ q) := ⟨S3, mo3, HO3.out, HB4.out, HG4.out.lo (HA.out.size) HMO.out⟩
          have HZ : Hid (Below w0.heap.size w0 w4) := HA.out.trans (HG4.out.below hle HA.out.size HMO.out)
          clear HB4 HG4 HP4 HO3
          go_upto_region 16 with fail
          go_cut [11] (fun v wc => v = .int .i64 (rowN m : Nat) ∧ w4 = wc)
          case first =>
            by_cases m0 : m < 0
            · have m1 : ¬ 32 < m := by omega
              have e1 : Hid (rowN m = 1) := by show rowN m = 1; unfold rowN; rw [if_pos m0]
              go_wp2
              go_meet
              exact ⟨by rw [e1.out]; rfl, rfl⟩
            · by_cases m2 : 32 < m
              · have e1 : Hid (rowN m = 33) := by show rowN m = 33; unfold rowN; rw [if_neg (by omega), if_pos m2]
                go_wp2
                go_meet
                exact ⟨by rw [e1.out]; rfl, rfl⟩
              · have e1 : Hid ((rowN m : Int) = m + 1) := by show (rowN m : Int) = m + 1; unfold rowN; rw [if_neg (by omega), if_neg m2]; omega
                have m3 : 0 ≤ m := by omega
                have m4 : m ≤ 32 := by omega
                go_wp2
                go_meet
                exact ⟨by rw [e1.out], rfl⟩
          case rest =>
            obtain ⟨rfl, rfl⟩ := hcut
            obtain ⟨R, hR⟩ : ∃ R, rowN m = R := ⟨_, rfl⟩
            rw [hR]
            clear hR
            by_cases f2 : F < 0
            · go_wp2_with fail
              go_loopw [99] (fun i wq => i = .int .i64 0 ∧ w4 = wq) (fun i _ => 0)
              case atStart => exact ⟨rfl, rfl⟩
              case round =>
                obtain ⟨rfl, rfl⟩ := hrel
                go_wp2
                go_roundw
                case rel => exact ⟨k + 1, by omega, by go_num, HX, HZ⟩
                case measure => simp [intOf]; omega
            · have f3 : 16 < F := by omega
              go_wp2_with fail
              go_loopw [99] (fun i wq => i = .int .i64 0 ∧ w4 = wq) (fun i _ => 0)
              case atStart => exact ⟨rfl, rfl⟩
              case round =>
                obtain ⟨rfl, rfl⟩ := hrel
                go_wp2
                go_roundw
                case rel => exact ⟨k + 1, by omega, by go_num, HX, HZ⟩
                case measure => simp [intOf]; omega
    · obtain rfl : k = n := by omega
      go_wp2
      go_ret
      exact ⟨rfl, HB0.out.trans (HB.out.mono HB0.out.size)⟩

theorem books_law {H : Type} {enc : TypeId × Value → H} {base : Nat} (v : Value) (d : DataW H) (p : List MemPlace) (m : Int) (hm : (Lit.int .i64 m).wf = true) (W : World) (o : Value.okWide Try.prog W .any base 31 v) (k : DataW.Trod enc Try.prog W 0 (fun _ => true) true 31 v d p) :
    Calls Try.prog 5 #[v, .int .i64 m] W fun e w' => e = .returned (.bool true) ∧ Below W.heap.size W w' := by
  obtain ⟨ao, n, cap, f, g, rfl, _, _, hL, hW⟩ := open_pairs Try.underlying31 Try.underlying32 Try.underlying3 (by kernel_rfl) (by kernel_rfl) o k
  by_cases hn : n ≤ 60
  · exact books_short ao n cap f g m W hn hL hW
  · exact books_long ao n cap m W (by omega)
end Go.Proofs.Ytammpmfhflnbhaa
