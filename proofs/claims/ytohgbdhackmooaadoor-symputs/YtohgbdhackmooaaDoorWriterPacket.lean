/-
  What Packet of the document's writer and the law's own Same tell. Nothing that was there is turned.
-/
import Derived.Test.YtohgbdhackmooaaDoorWriterRef
import Derived.Deep.DeepCutAuto
namespace Go.Proofs.YtohgbdhackmooaaDoor
set_option linter.unusedVariables false
open Go.ChangeShapes Go.WideShapes Go.ChangeAt Go.RowKit

/-- The first so many raw bits behind a place, as a number. -/
def rawP (R : Nat → Int) (b : Nat) : Nat → Int
  | 0 => 0
  | k + 1 => rawP R b k + R (b + k) * 2 ^ k
theorem rawP_eight (R : Nat → Int) (j : Nat) : rawP R (j * 8) 8 = rawB R j := by
  simp only [rawP, rawB]
  omega
theorem rawP_bd {R : Nat → Int} (h : ∀ i, 0 ≤ R i ∧ R i ≤ 1) (b : Nat) : ∀ k, 0 ≤ rawP R b k ∧ rawP R b k < 2 ^ k
  | 0 => by simp [rawP]
  | k + 1 => by
    have h1 := rawP_bd h b k
    have h2 := h (b + k)
    rw [rawP, Int.pow_succ]
    have hp : (0 : Int) < 2 ^ k := Int.pow_pos (by decide)
    generalize (2 : Int) ^ k = q at *
    obtain e | e : R (b + k) = 0 ∨ R (b + k) = 1 := by omega
    · rw [e]; omega
    · rw [e]; omega

set_option maxRecDepth 20000 in
set_option maxHeartbeats 1000000 in
theorem packet_any (w : World) (B b z : Nat) (m : Mo) (hz : z ≤ 1275) (hn : m.nD ≤ 700000) (hk : m.nR ≤ 700000) (ho : Hid m.Ok) (hw : Hid (RfAt w B b z m)) :
    Calls Tryd.prog 31 #[.pointer (some ⟨b, 0, none⟩)] w fun e w' => ∃ v, e = .returned v ∧ OwnN w' w.heap.size 3 .i64 v z (m.pk z) ∧ Below w.heap.size w w' := by
  have zi : (z : Int) ≤ 1275 := by omega
  obtain ⟨vD, vR, HC⟩ := hw.out
  obtain ⟨aR, cR, rfl, -, -, -⟩ := HC.r.slice
  obtain ⟨gD, cD, rfl, -, -, -, -⟩ := HC.d.form (by have := ho.out.n3; omega)
  have HCH : Hid _ := HC
  clear HC
  go_enter Tryd.func31, Tryd.ntmps31
  go_wp2
  go_loopw [3, 4] (fun v i wr => ∃ l : Nat, i = .int .i64 l ∧ l ≤ z ∧ Hid (OwnN wr w.heap.size 3 .i64 v l (m.pk z)) ∧ Hid (Below w.heap.size w wr)) (fun _ i _ => z - (intOf i).toNat)
  case atStart => exact ⟨0, rfl, by omega, own_nil _ _ _ _ _, Below.refl _ _⟩
  case round =>
    obtain ⟨l, rfl, hl, HO, HB⟩ := hrel
    have HCw : Hid (RfCells wr B b z m.rng (.slice (some ⟨gD, 0, none⟩) m.nD cD) (.slice aR m.nR cR) m.nD m.nR m.D m.R) := HCH.out.kept (grown_below HB.out none) (by intro q e; cases e)
    have c0 := HCw.out.c0
    have c2 := HCw.out.c2
    have c3 := HCw.out.c3
    by_cases hlt : l < z
    · have hlt' : (l : Int) < z := by omega
      have ni : (m.nD : Int) ≤ 700000 := by omega
      have ki : (m.nR : Int) ≤ 700000 := by omega
      obtain ⟨d, hd⟩ : ∃ d, m.D l = d := ⟨_, rfl⟩
      have hd2 := ho.out.d l
      rw [hd] at hd2
      have HD : Hid _ := hd
      clear hd
      go_upto_if 23 with fail
      go_cut [5] (fun v wc => v = .int .i64 d ∧ wr = wc)
      case first =>
        by_cases hin : l < m.nD
        · have hin' : (l : Int) < m.nD := by omega
          have cd := HCw.out.d.cell hin
          rw [HD.out] at cd
          go_wp2
          go_meet
          exact ⟨rfl, rfl⟩
        · have hin' : ¬ ((l : Int) < m.nD) := by omega
          have hd0 : d = 0 := by rw [← HD.out]; exact ho.out.dz l (by omega)
          go_wp2
          go_meet
          exact ⟨by rw [hd0], rfl⟩
      case rest =>
        obtain ⟨rfl, rfl⟩ := hcut
        go_wp2
        go_loopw [5, 6, 7] (fun v p k wq => ∃ q : Nat, k = .int .i64 q ∧ q ≤ 8 ∧ p = .int .i64 (2 ^ q) ∧ v = .int .i64 (d + rawP m.R ((z - 1 - l) * 8) q) ∧ wr = wq) (fun _ _ k _ => 8 - (intOf k).toNat)
        case atStart => exact ⟨0, rfl, by omega, rfl, by simp [rawP], rfl⟩
        case round =>
          obtain ⟨q, rfl, hq, rfl, rfl, rfl⟩ := hrel
          by_cases hq8 : q < 8
          · have hq8' : (q : Int) < 8 := by omega
            have hp := rawP_bd ho.out.b ((z - 1 - l) * 8) q
            have h2q : (2 : Int) ^ q ≤ 128 := by
              match q, hq8 with
              | 0, _ | 1, _ | 2, _ | 3, _ | 4, _ | 5, _ | 6, _ | 7, _ => decide
            have h2p : (0 : Int) < 2 ^ q := Int.pow_pos (by decide)
            obtain ⟨bit, hbit⟩ : ∃ bit : Nat, ((z : Int) - 1 - l) * 8 + q = bit := ⟨(z - 1 - l) * 8 + q, by omega⟩
            have hb2 : bit = (z - 1 - l) * 8 + q := by omega
            have hr := ho.out.b bit
            have hcase : (bit < m.nR) ∨ (¬ bit < m.nR ∧ m.R bit = 0) := by
              by_cases h : bit < m.nR
              · exact .inl h
              · exact .inr ⟨h, ho.out.bz bit (by omega)⟩
            have HRP : Hid (rawP m.R ((z - 1 - l) * 8) (q + 1) = rawP m.R ((z - 1 - l) * 8) q + m.R bit * 2 ^ q) := by show _ = _; rw [hb2]; rfl
            have HB2 : Hid _ := hb2
            clear hb2
            obtain ⟨x, hx⟩ : ∃ x, m.R bit = x := ⟨_, rfl⟩
            rw [hx] at hr hcase HRP
            have h2x : 0 ≤ x * 2 ^ q ∧ x * 2 ^ q ≤ 128 := by
              obtain e | e : x = 0 ∨ x = 1 := by omega
              · rw [e]; omega
              · rw [e]; omega
            have hbd : rawP m.R ((z - 1 - l) * 8) q ≤ 128 := by omega
            have HX : Hid _ := hx
            clear hx
            have HP2 : Hid ((2 : Int) ^ (q + 1) = 2 ^ q * 2) := Int.pow_succ _ _
            generalize hP : rawP m.R ((z - 1 - l) * 8) q = P at *
            generalize hTT : (2 : Int) ^ q = T at *
            have hxT : ∃ xT, x * T = xT := ⟨_, rfl⟩
            obtain ⟨xT, hxT⟩ := hxT
            rw [hxT] at h2x HRP
            rcases hcase with hin | ⟨hin, hx0⟩
            · have hin' : (bit : Int) < m.nR := by omega
              obtain ⟨gR, cR', hvR, -, -, -, -⟩ := HCw.out.r.form (by omega)
              cases hvR
              have cr := HCw.out.r.cell hin
              rw [show m.R bit = x from HX.out] at cr
              clear hTT hP
              go_wp2
              go_roundw
              case rel => exact ⟨q + 1, by go_num, by omega, by rw [show (2 : Int) ^ (q + 1) = _ from HP2.out], by rw [show rawP m.R ((z - 1 - l) * 8) (q + 1) = _ from HRP.out, ← Int.add_assoc], by trivial⟩
              case measure => simp [intOf]; omega
            · have hin' : ¬ ((bit : Int) < m.nR) := by omega
              have hx1 : xT = 0 := by rw [← hxT, hx0, Int.zero_mul]
              have HX1 : Hid _ := hx1
              clear hTT hP hx0 hx1
              go_wp2
              go_roundw
              case rel => exact ⟨q + 1, by go_num, by omega, by rw [show (2 : Int) ^ (q + 1) = _ from HP2.out], by rw [show rawP m.R ((z - 1 - l) * 8) (q + 1) = _ from HRP.out, show xT = 0 from HX1.out, Int.add_zero], by trivial⟩
              case measure => simp [intOf]; omega
          · have e : q = 8 := by omega
            subst e
            clear hq8
            have hpk : d + rawP m.R ((z - 1 - l) * 8) 8 = m.pk z l := by rw [rawP_eight, ← show m.D l = d from HD.out]; rfl
            have HOa : Hid (OwnN (wr.alloc (.cells #[.int .i64 (m.pk z l)] 3)) w.heap.size 3 .i64 u3 l (m.pk z)) := HO.out.kept (World.grownBy_alloc _ _ none) (by cases u3.ownBlock <;> simp)
            obtain ⟨ao, co, hv0, -, -, -⟩ := HO.out.slice
            have hwB := HB.out.size
            subst hv0
            rw [hpk]
            clear hpk
            go_wp2_with (at_builtin; refine wpList_push rfl _ _ rfl w.heap.size _ l (m.pk z) rfl HOa.out wr.heap.size (m.pk z l) rfl ?c1 ?c2 ?c3 ?_)
            case c1 => exact heap_alloc_new _ _
            case c2 => omega
            case c3 => simp; omega
            intro g cap w1 hown hgrow hat hlt2
            have HN : Hid (OwnN w1 w.heap.size 3 .i64 (.slice (some ⟨g, 0, none⟩) (l + 1) cap) (l + 1) (m.pk z)) := OwnN.pushed hown (fun _ _ => rfl) rfl
            have HBn : Hid (Below w.heap.size w w1) := below_row (HB.out.alloc hwB _) hgrow (fun g' e => (HOa.out.lt e).1) (by simp; omega)
            clear hown hgrow hat
            go_wp2
            go_roundw
            case rel => exact ⟨l + 1, by go_num, by omega, HN, HBn⟩
            case measure => simp [intOf]; omega
    · have e : l = z := by omega
      subst e
      clear hlt
      go_wp2
      go_ret
      exact ⟨_, rfl, HO.out, HB.out⟩

theorem same_any (w : World) (g z cap : Nat) (p q : Nat → Int) (v : Value) (B : Nat) (hz : z ≤ 1275) (hp : Hid (BytesAt w g z p)) (hb : ∀ i, i < z → 0 ≤ p i ∧ p i ≤ 255) (hq : Hid (OwnN w B 3 .i64 v z q)) (hpq : Hid (∀ i, i < z → p i = q i)) :
    Calls Tryd.prog 30 #[.slice (some ⟨g, 0, none⟩) z cap, v] w fun e w' => e = .returned (.bool true) ∧ Below w.heap.size w w' := by
  have zi : (z : Int) ≤ 1275 := by omega
  obtain ⟨av, cv, hv, -, -, -⟩ := hq.out.slice
  subst hv
  go_enter Tryd.func30, Tryd.ntmps30
  go_wp2
  go_loopw [13] (fun i wr => ∃ l : Nat, i = .int .i64 l ∧ l ≤ z ∧ Hid (∃ n, wr = w.drewN n)) (fun i _ => z - (intOf i).toNat)
  case atStart => exact ⟨0, rfl, by omega, 0, rfl⟩
  case round =>
    obtain ⟨l, rfl, hl, HN⟩ := hrel
    by_cases hlt : l < z
    · have hlt' : (l : Int) < z := by omega
      obtain ⟨n, rfl⟩ := HN.out
      have hb1 := hb l hlt
      have hpl := hpq.out l hlt
      have c1 := hp.out.cell hlt
      obtain ⟨gq, cq, hvq, -, -, -, -⟩ := hq.out.form (by omega)
      cases hvq
      have c2 := hq.out.cell hlt
      rw [← hpl] at c2
      have e1 : IntKind.i64.wrap (p l) = p l := wrap_add (by omega) (by omega)
      clear hpl
      go_wp2
      go_region
      go_wp2
      go_roundw
      case rel => exact ⟨l + 1, by go_num, by omega, n + 1, rfl⟩
      case measure => simp [intOf]; omega
    · have e : l = z := by omega
      subst e
      clear hlt
      obtain ⟨n, rfl⟩ := HN.out
      go_wp2
      go_ret
      exact ⟨rfl, rfl, rfl, rfl, Nat.le_refl _, fun _ _ => rfl⟩

end Go.Proofs.YtohgbdhackmooaaDoor
