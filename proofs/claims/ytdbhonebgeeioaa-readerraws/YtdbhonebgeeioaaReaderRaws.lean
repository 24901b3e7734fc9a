/-
  The law ReaderRaws of layer 7 as a walk: it returns true, and nothing that was there has turned.
-/
import Derived.Test.YtdbhonebgeeioaaReaderNoughts
namespace Go.Proofs.Ytdbhonebgeeioaa
set_option linter.unusedVariables false
open Go.ChangeShapes Go.WideShapes Go.ChangeAt Go.RowKit

theorem raws_long (ab : Option Addr) (nb cb : Nat) (ac : Option Addr) (nc cc : Nat) (ao : Option Addr) (n cap : Nat) (w : World) (hn : 300 < nb ∨ 200 < nc ∨ 200 < n) :
    Calls Try.prog 6 #[.slice ab nb cb, .slice ac nc cc, .slice ao n cap] w fun e w' => e = .returned (.bool true) ∧ Below w.heap.size w w' := by
  have hn' : (300 : Int) < nb ∨ (¬ (300 : Int) < nb ∧ (200 : Int) < (nc : Int)) ∨ (¬ (300 : Int) < nb ∧ ¬ (200 : Int) < (nc : Int) ∧ (200 : Int) < (n : Int)) := by omega
  rcases hn' with h1 | ⟨h1, h2⟩ | ⟨h1, h2, h3⟩
  · go_enter Try.func6, Try.ntmps6
    go_wp2_with (go_at_call 8; refine (rawake _).mono ?_; rintro e W0 ⟨rfl, hB0⟩)
    go_ret
    exact ⟨rfl, hB0⟩
  · go_enter Try.func6, Try.ntmps6
    go_wp2_with (go_at_call 8; refine (rawake _).mono ?_; rintro e W0 ⟨rfl, hB0⟩)
    go_ret
    exact ⟨rfl, hB0⟩
  · go_enter Try.func6, Try.ntmps6
    go_wp2_with (go_at_call 8; refine (rawake _).mono ?_; rintro e W0 ⟨rfl, hB0⟩)
    go_ret
    exact ⟨rfl, hB0⟩

theorem rawK_nat {n : Nat} (h : n ≤ 16) : rawK (n : Int) = n := by
  unfold rawK; rw [if_neg (by omega), if_neg (by omega)]; omega

set_option maxHeartbeats 4000000 in
set_option maxRecDepth 20000 in
theorem raws_any (ab : Option Addr) (nb cb : Nat) (p : Nat → Int) (ac : Option Addr) (nc cc : Nat) (cu : Nat → Int) (ao : Option Addr) (n cap : Nat) (f : Nat → Opr) (w : World) (hb : nb ≤ 300) (hnc : nc ≤ 200) (hn : n ≤ 200) (hp : Hid (Bx nb p)) (hi : Hid (IntsAt w ab nb .u8 p)) (hcu : Hid (Bx nc cu)) (hic : Hid (IntsAt w ac nc .u8 cu)) (hf : Hid (OprsAt w ao n f)) :
    Calls Try.prog 6 #[.slice ab nb cb, .slice ac nc cc, .slice ao n cap] w fun e w' => e = .returned (.bool true) ∧ Below w.heap.size w w' := by
  have hn' : (n : Int) ≤ 200 := by omega
  have hnc' : (nc : Int) ≤ 200 := by omega
  have hb' : (nb : Int) ≤ 300 := by omega
  go_enter Try.func6, Try.ntmps6
  go_wp2_with (first
    | (go_at_call 8; refine (rawake _).mono ?_; rintro e W0 ⟨rfl, HB0⟩; replace HB0 : Hid (Below w.heap.size w W0) := HB0)
    | (go_at_call 9; refine (rdnew W0 ab nb cb p (by omega) hp (hi.out.below HB0.out)).mono ?_; rintro e w1 ⟨bx, rfl, HX, HB1⟩; replace HX : Hid (RdAt w1 W0.heap.size w1.heap.size bx nb p (Re.new p)) := HX; replace HB1 : Hid (Below W0.heap.size W0 w1) := HB1))
  have HL1 : Hid (w.heap.size ≤ W0.heap.size) := HB0.out.size
  have HBW : Hid (Below w.heap.size w w1) := HB0.out.trans (HB1.out.mono HB0.out.size)
  generalize W0.heap.size = lo at *
  generalize hh2 : w1.heap.size = hx at *
  clear HB1 HB0
  go_loopw [8, 36] (fun a i wr => ∃ (j : Nat) (m : Re), j ≤ nc ∧ i = .int .i64 j ∧ a = .int .i64 (m.nb : Int) ∧ Hid m.Good ∧ m.tk ≤ 3 + 2 * j ∧ m.nb ≤ 16 * j ∧ Hid (RdAt wr lo hx bx nb p m) ∧ Hid (Below w.heap.size w wr)) (fun _ i _ => nc - (intOf i).toNat)
  case atStart => exact ⟨0, Re.new p, by omega, rfl, rfl, new_good hp.out, Nat.le_refl _, Nat.le_refl _, HX, HBW⟩
  case round =>
    obtain ⟨j, m, hj, rfl, rfl, HG, n1, n2, HX, HB⟩ := hrel
    by_cases hlt : j < nc
    · have hlt' : (j : Int) < nc := by omega
      obtain ⟨gc, offc, rfl, cj⟩ := (hic.out.below HB.out) j hlt
      have hc0 := hcu.out.b j
      generalize cu j = c at *
      obtain ⟨nn, hnn⟩ : ∃ nn : Nat, c % 17 = nn := ⟨(c % 17).toNat, by omega⟩
      have ec : Int.tmod c 17 = nn := by rw [Int.tmod_eq_emod_of_nonneg hc0.1]; exact hnn
      have nn16 : nn ≤ 16 := by omega
      have nn16' : (nn : Int) ≤ 16 := by omega
      have nn0 : ¬ ((nn : Int) < 0) := by omega
      have HKK : Hid (rawK (nn : Int) = nn) := rawK_nat nn16
      have c17 : Int := nn
      have HLX0 := HX.out.lt
      have HLX : Hid (lo ≤ bx ∧ bx < hx ∧ bx < wr.heap.size) := HLX0
      have t1 : m.tk ≤ 800000 := by omega
      clear hnn HLX0
      by_cases hjn : j < n
      · have hjn' : (j : Int) < n := by omega
        obtain ⟨bo, off, rfl, d0, d1, d2, d3, ho⟩ := (hf.out.below HB.out) j hjn
        generalize f j = o at *
        obtain ⟨k, x, y, t⟩ := o
        simp only at d0 d1 d2 d3
        clear ho d0 d1 d2
        have hg := getU_bd HG.out t
        have HE : Hid (∀ q, m.getU t = q → 0 ≤ q ∧ q ≤ 4095) := fun q e => by rw [← e]; exact hg
        clear hg
        obtain ⟨s, hs⟩ : ∃ s, m.getU t = s := ⟨_, rfl⟩
        obtain ⟨s0, s1⟩ := HE.out s hs
        have HSG : Hid (m.getU t = s) := hs
        clear hs HE
        have hn2 := takeU_n m p s (s + 1) t
        have HG1 : Hid (m.takeU p s (s + 1) t).Good := takeU_good hp.out HG.out s (s + 1) t
        obtain ⟨m1, hm1⟩ : ∃ m1, m.takeU p s (s + 1) t = m1 := ⟨_, rfl⟩
        rw [hm1] at hn2 HG1
        have HM1 : Hid (m.takeU p s (s + 1) t = m1) := hm1
        have HNB : Hid (m1.nb = m.nb) := hn2.2.2
        have t9 : m1.nb ≤ 700000 := by omega
        have HKR : Hid ((m1.raw nn).tk ≤ 3 + 2 * (j + 1) ∧ (m1.raw nn).nb ≤ 16 * (j + 1)) := by show m1.tk ≤ _ ∧ m1.nb + nn ≤ _; omega
        have HGR : Hid (m1.raw nn).Good := rawRe_good HG1.out nn
        rw [← HNB.out]
        clear hm1 hn2
        have hsb := rsum_bd nb p m1.nb nn
        have hp16 := pow16 nn16
        obtain ⟨sx, hsx⟩ : ∃ sx, rsum nb p m1.nb nn = sx := ⟨_, rfl⟩
        rw [hsx] at hsb
        have HS : Hid (rsum nb p m1.nb nn = sx) := hsx
        clear hsx
        have sx0 : 0 ≤ sx := hsb.1
        have sx1 : sx < 65536 := by omega
        have sx2 : sx / 2 ^ nn = 0 := Int.ediv_eq_zero_of_lt hsb.1 hsb.2
        clear hsb hp16
        go_wp2_with (first
          | (go_at_call 11; refine (rdget _ lo hx bx nb p m t HG HX).mono ?_; rw [HSG.out]; rintro e w5 ⟨rfl, rfl⟩)
          | (go_at_call 13; refine (rdtakeU _ lo hx bx nb p m s (s + 1) t (by omega) t1 hp HG HX).mono ?_; rw [HM1.out]; rintro e wa ⟨rfl, HXR, HBa⟩; replace HXR : Hid (RdAt wa lo hx bx nb p m1) := HXR; have HBR : Hid (Below w.heap.size w wa) := below_grown HB.out HBa (Nat.le_trans HL1.out HLX.out.1) HB.out.size; clear HBa)
          | (go_at_call 15; refine (rdraw _ lo hx bx nb p m1 (nn : Int) (by omega) t9 hp HXR).mono ?_; rw [HKK.out, HS.out]; rintro e wq ⟨rfl, HXq, HBq⟩; replace HXq : Hid (RdAt wq lo hx bx nb p (m1.raw nn)) := HXq; have HBw : Hid (Below w.heap.size w wq) := below_grown HBR.out HBq (by have := HLX.out; have := HL1.out; omega) HBR.out.size; clear HBq))
        have HIq : Hid (IntsAt wq ab nb .u8 p) := hi.out.below HBw.out
        go_loopw [8, 14, 15, 16] (fun a k _ _ wr2 => ∃ q : Nat, q ≤ nn ∧ k = .int .i64 q ∧ a = .int .i64 ((m1.nb + q : Nat) : Int) ∧ wq = wr2) (fun _ k _ _ _ => nn - (intOf k).toNat)
        case atStart => exact ⟨0, Nat.zero_le _, rfl, rfl, rfl⟩
        case round =>
          obtain ⟨q, hq, rfl, rfl, rfl⟩ := hrel
          by_cases hqn : q < nn
          · have hqn' : (q : Int) < nn := by omega
            have q0 : ¬ ((q : Int) < 0) := by omega
            have hpos : (0 : Int) < 2 ^ q := Int.pow_pos (by decide)
            have y0 : 0 ≤ sx / 2 ^ q := Int.ediv_nonneg sx0 (by omega)
            have y1 : sx / 2 ^ q ≤ sx := Int.ediv_le_self _ sx0
            have HR0 : sx / 2 ^ q % 2 = rbit nb p (m1.nb + q) := by rw [← HS.out]; exact rsum_at nb p m1.nb nn q hqn
            have e1 := and_one (x := sx / 2 ^ q) y0 (by omega)
            have hyb := rbit_bd nb p (m1.nb + q)
            obtain ⟨yv, hyv⟩ : ∃ yv, rbit nb p (m1.nb + q) = yv := ⟨_, rfl⟩
            have HR : Hid (rbit nb p (m1.nb + q) = yv) := hyv
            rw [HR0, hyv] at e1
            rw [hyv] at hyb
            have e2 := wrap_u8 (x := yv) (by omega) (by omega)
            clear HR0 hyv
            obtain ⟨a, ha⟩ : ∃ a : Nat, m1.nb + q = a := ⟨_, rfl⟩
            have ha8 : (a : Int) ≤ 800000 := by omega
            have HA : Hid (((m1.nb + (q + 1) : Nat) : Int) = (a : Int) + 1) := by show _ = _; omega
            rw [ha] at HR
            rw [ha]
            clear hpos ha
            obtain ⟨d, hd⟩ : ∃ d : Nat, (a : Int).tdiv 8 = d := ⟨a / 8, by rw [Int.tdiv_eq_ediv_of_nonneg (by omega)]; omega⟩
            obtain ⟨s, hs⟩ : ∃ s : Nat, (a : Int).tmod 8 = s := ⟨a % 8, by rw [Int.tmod_eq_emod_of_nonneg (by omega)]; omega⟩
            have ej : a / 8 = d := by rw [Int.tdiv_eq_ediv_of_nonneg (by omega)] at hd; omega
            have es : a % 8 = s := by rw [Int.tmod_eq_emod_of_nonneg (by omega)] at hs; omega
            have s8 : (s : Int) < 8 := by omega
            have jb : (d : Int) ≤ 100000 := by omega
            have HR2 := HR.out
            unfold rbit at HR2
            rw [ej, es] at HR2
            by_cases hlt2 : d < nb
            · rw [if_pos hlt2] at HR2
              obtain ⟨z, hz⟩ : ∃ z : Nat, (nb : Int) - 1 - d = z := ⟨nb - 1 - d, by omega⟩
              have hz2 : nb - 1 - d = z := by omega
              rw [hz2] at HR2
              have hb9 := hp.out.b z
              obtain ⟨g, off9, rfl, cc⟩ := HIq.out z (by omega)
              have zn : (z : Int) < nb := by omega
              have z0 : ¬ ((z : Int) < 0) := by omega
              have z1 : (0 : Int) ≤ z := by omega
              have z2 : (d : Int) ≤ (nb : Int) - 1 := by omega
              have hpos : (0 : Int) < 2 ^ s := Int.pow_pos (by decide)
              have u0 : 0 ≤ p z / 2 ^ s := Int.ediv_nonneg hb9.1 (by omega)
              have u1 : p z / 2 ^ s ≤ p z := Int.ediv_le_self _ hb9.1
              have e3 := and_one_u8 (x := p z / 2 ^ s) u0 (by omega)
              rw [HR2] at e3
              clear hz2 ej es hlt2 hpos HR HR2
              go_wp2
              go_roundw
              case rel => exact ⟨q + 1, by omega, by go_num, by rw [HA.out], by first | rfl | trivial⟩
              case measure => simp [intOf]; omega
            · rw [if_neg hlt2] at HR2
              have z0 : (nb : Int) - 1 - d < 0 := by omega
              subst HR2
              clear ej es HR
              go_wp2
              go_roundw
              case rel => exact ⟨q + 1, by omega, by go_num, by rw [HA.out], by first | rfl | trivial⟩
              case measure => simp [intOf]; omega
          · have e : q = nn := by omega
            subst e
            clear hqn
            go_wp2
            go_roundw
            case rel => exact ⟨j + 1, m1.raw q, by omega, by go_num, rfl, HGR, HKR.out.1, HKR.out.2, HXq, HBw⟩
            case measure => simp [intOf]; omega
      · have hjn' : ¬ ((j : Int) < n) := by omega
        have t9 : m.nb ≤ 700000 := by omega
        have HKR : Hid ((m.raw nn).tk ≤ 3 + 2 * (j + 1) ∧ (m.raw nn).nb ≤ 16 * (j + 1)) := by show m.tk ≤ _ ∧ m.nb + nn ≤ _; omega
        have HGR : Hid (m.raw nn).Good := rawRe_good HG.out nn
        have hsb := rsum_bd nb p m.nb nn
        have hp16 := pow16 nn16
        obtain ⟨sx, hsx⟩ : ∃ sx, rsum nb p m.nb nn = sx := ⟨_, rfl⟩
        rw [hsx] at hsb
        have HS : Hid (rsum nb p m.nb nn = sx) := hsx
        clear hsx
        have sx0 : 0 ≤ sx := hsb.1
        have sx1 : sx < 65536 := by omega
        have sx2 : sx / 2 ^ nn = 0 := Int.ediv_eq_zero_of_lt hsb.1 hsb.2
        clear hsb hp16
        have HXR := HX
        have HBR := HB
        go_wp2_with (go_at_call 15; refine (rdraw _ lo hx bx nb p m (nn : Int) (by omega) t9 hp HXR).mono ?_; rw [HKK.out, HS.out]; rintro e wq ⟨rfl, HXq, HBq⟩; replace HXq : Hid (RdAt wq lo hx bx nb p (m.raw nn)) := HXq; have HBw : Hid (Below w.heap.size w wq) := below_grown HBR.out HBq (by have := HLX.out; have := HL1.out; omega) HBR.out.size; clear HBq)
        have HIq : Hid (IntsAt wq ab nb .u8 p) := hi.out.below HBw.out
        go_loopw [8, 14, 15, 16] (fun a k _ _ wr2 => ∃ q : Nat, q ≤ nn ∧ k = .int .i64 q ∧ a = .int .i64 ((m.nb + q : Nat) : Int) ∧ wq = wr2) (fun _ k _ _ _ => nn - (intOf k).toNat)
        case atStart => exact ⟨0, Nat.zero_le _, rfl, rfl, rfl⟩
        case round =>
          obtain ⟨q, hq, rfl, rfl, rfl⟩ := hrel
          by_cases hqn : q < nn
          · have hqn' : (q : Int) < nn := by omega
            have q0 : ¬ ((q : Int) < 0) := by omega
            have hpos : (0 : Int) < 2 ^ q := Int.pow_pos (by decide)
            have y0 : 0 ≤ sx / 2 ^ q := Int.ediv_nonneg sx0 (by omega)
            have y1 : sx / 2 ^ q ≤ sx := Int.ediv_le_self _ sx0
            have HR0 : sx / 2 ^ q % 2 = rbit nb p (m.nb + q) := by rw [← HS.out]; exact rsum_at nb p m.nb nn q hqn
            have e1 := and_one (x := sx / 2 ^ q) y0 (by omega)
            have hyb := rbit_bd nb p (m.nb + q)
            obtain ⟨yv, hyv⟩ : ∃ yv, rbit nb p (m.nb + q) = yv := ⟨_, rfl⟩
            have HR : Hid (rbit nb p (m.nb + q) = yv) := hyv
            rw [HR0, hyv] at e1
            rw [hyv] at hyb
            have e2 := wrap_u8 (x := yv) (by omega) (by omega)
            clear HR0 hyv
            obtain ⟨a, ha⟩ : ∃ a : Nat, m.nb + q = a := ⟨_, rfl⟩
            have ha8 : (a : Int) ≤ 800000 := by omega
            have HA : Hid (((m.nb + (q + 1) : Nat) : Int) = (a : Int) + 1) := by show _ = _; omega
            rw [ha] at HR
            rw [ha]
            clear hpos ha
            obtain ⟨d, hd⟩ : ∃ d : Nat, (a : Int).tdiv 8 = d := ⟨a / 8, by rw [Int.tdiv_eq_ediv_of_nonneg (by omega)]; omega⟩
            obtain ⟨s, hs⟩ : ∃ s : Nat, (a : Int).tmod 8 = s := ⟨a % 8, by rw [Int.tmod_eq_emod_of_nonneg (by omega)]; omega⟩
            have ej : a / 8 = d := by rw [Int.tdiv_eq_ediv_of_nonneg (by omega)] at hd; omega
            have es : a % 8 = s := by rw [Int.tmod_eq_emod_of_nonneg (by omega)] at hs; omega
            have s8 : (s : Int) < 8 := by omega
            have jb : (d : Int) ≤ 100000 := by omega
            have HR2 := HR.out
            unfold rbit at HR2
            rw [ej, es] at HR2
            by_cases hlt2 : d < nb
            · rw [if_pos hlt2] at HR2
              obtain ⟨z, hz⟩ : ∃ z : Nat, (nb : Int) - 1 - d = z := ⟨nb - 1 - d, by omega⟩
              have hz2 : nb - 1 - d = z := by omega
              rw [hz2] at HR2
              have hb9 := hp.out.b z
              obtain ⟨g, off9, rfl, cc⟩ := HIq.out z (by omega)
              have zn : (z : Int) < nb := by omega
              have z0 : ¬ ((z : Int) < 0) := by omega
              have z1 : (0 : Int) ≤ z := by omega
              have z2 : (d : Int) ≤ (nb : Int) - 1 := by omega
              have hpos : (0 : Int) < 2 ^ s := Int.pow_pos (by decide)
              have u0 : 0 ≤ p z / 2 ^ s := Int.ediv_nonneg hb9.1 (by omega)
              have u1 : p z / 2 ^ s ≤ p z := Int.ediv_le_self _ hb9.1
              have e3 := and_one_u8 (x := p z / 2 ^ s) u0 (by omega)
              rw [HR2] at e3
              clear hz2 ej es hlt2 hpos HR HR2
              go_wp2
              go_roundw
              case rel => exact ⟨q + 1, by omega, by go_num, by rw [HA.out], by first | rfl | trivial⟩
              case measure => simp [intOf]; omega
            · rw [if_neg hlt2] at HR2
              have z0 : (nb : Int) - 1 - d < 0 := by omega
              subst HR2
              clear ej es HR
              go_wp2
              go_roundw
              case rel => exact ⟨q + 1, by omega, by go_num, by rw [HA.out], by first | rfl | trivial⟩
              case measure => simp [intOf]; omega
          · have e : q = nn := by omega
            subst e
            clear hqn
            go_wp2
            go_roundw
            case rel => exact ⟨j + 1, m.raw q, by omega, by go_num, rfl, HGR, HKR.out.1, HKR.out.2, HXq, HBw⟩
            case measure => simp [intOf]; omega
    · have e : j = nc := by omega
      subst e
      clear hlt
      go_wp2
      go_ret
      exact ⟨rfl, HB.out⟩

end Go.Proofs.Ytdbhonebgeeioaa
