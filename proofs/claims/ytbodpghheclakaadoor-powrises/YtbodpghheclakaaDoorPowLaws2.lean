/-
  The laws of layer 4 (pow) that say no answer of the document's: PowRises, PowMeets, PowFines, each as a walk: at any arguments of its types, with the table of package pow as the row lists it, it returns true, and nothing that was there has turned.
-/
import Derived.Test.YtbodpghheclakaaDoorPowLaws
namespace Go.Proofs.YtbodpghheclakaaDoor
set_option linter.unusedVariables false
open Go.ChangeShapes Go.WideShapes Go.ChangeAt Go.RowKit

theorem rise_facts {x y : Int} (h0 : 0 ≤ x) (hxy : x ≤ y) (hy : y ≤ 304) : ∃ p q r, expF x = p ∧ expF (x + 16) = q ∧ expF y = r ∧ 1 ≤ p ∧ p ≤ 2008224 ∧ p ≤ r ∧ (q = 2 * p ∨ q = 2 * p + 1) := by
  have a := gain_bd (e := x.toNat) (by omega)
  refine ⟨gain x.toNat, gain (x.toNat + 16), gain y.toNat, expF_in h0 (by omega), ?_, expF_in (by omega) (by omega), a.1, a.2, gain_mono (by omega) (by omega), gain_octave (by omega)⟩
  rw [expF_in (by omega) (by omega), show (x + 16).toNat = x.toNat + 16 by omega]

set_option maxHeartbeats 400000 in
theorem rises_law (a b : Int) (w : World) (ha : 0 ≤ a) (ha2 : a ≤ 65535) (hb : 0 ≤ b) (hb2 : b ≤ 65535) (h : Hid (Steps w)) :
    Calls Tryd.prog 5 #[.int .u16 a, .int .u16 b] w fun x w' => x = .returned (.bool true) ∧ Below w.heap.size w w' := by
  have ht : a.tmod 305 = a % 305 := Int.tmod_eq_emod_of_nonneg ha
  have ht2 : b.tmod 305 = b % 305 := Int.tmod_eq_emod_of_nonneg hb
  by_cases hxy : a % 305 ≤ b % 305
  · obtain ⟨p, q, r, hp, hq, hr, h1, h2, h3, h4⟩ := rise_facts (x := a % 305) (y := b % 305) (by omega) hxy (by omega)
    have Hp : Hid _ := hp
    have Hq : Hid _ := hq
    have Hr : Hid _ := hr
    clear hp hq hr
    rcases h4 with rfl | rfl
    all_goals
      go_enter Tryd.func5, Tryd.ntmps5
      go_wp2_with fail
      refine (awake_p _ h).mono ?_
      rintro x w' ⟨rfl, rfl⟩
      go_wp2_with fail
      refine (exp_any _ _ h).mono ?_
      rintro x w' ⟨rfl, rfl⟩
      rw [Hp.out]
      go_wp2_with fail
      refine (exp_any _ _ h).mono ?_
      rintro x w' ⟨rfl, rfl⟩
      rw [Hq.out]
      go_wp2_with fail
      refine (exp_any _ _ h).mono ?_
      rintro x w' ⟨rfl, rfl⟩
      rw [Hr.out]
      go_wp2
      all_goals go_ret
      all_goals exact ⟨ret_true (by simp), Below.refl _ _⟩
  · obtain ⟨p, q, r, hp, hq, hr, h1, h2, h3, h4⟩ := rise_facts (x := b % 305) (y := a % 305) (by omega) (by omega) (by omega)
    have Hp : Hid _ := hp
    have Hq : Hid _ := hq
    have Hr : Hid _ := hr
    clear hp hq hr
    rcases h4 with rfl | rfl
    all_goals
      go_enter Tryd.func5, Tryd.ntmps5
      go_wp2_with fail
      refine (awake_p _ h).mono ?_
      rintro x w' ⟨rfl, rfl⟩
      go_wp2_with fail
      refine (exp_any _ _ h).mono ?_
      rintro x w' ⟨rfl, rfl⟩
      rw [Hp.out]
      go_wp2_with fail
      refine (exp_any _ _ h).mono ?_
      rintro x w' ⟨rfl, rfl⟩
      rw [Hq.out]
      go_wp2_with fail
      refine (exp_any _ _ h).mono ?_
      rintro x w' ⟨rfl, rfl⟩
      rw [Hr.out]
      go_wp2
      all_goals go_ret
      all_goals exact ⟨ret_true (by simp), Below.refl _ _⟩

theorem meet_facts {x k : Int} (hx : 1 ≤ x) (h0 : 0 ≤ k) (hk : k ≤ 320) :
    ∃ n g m a, logF x = n ∧ 0 ≤ n ∧ n ≤ 320 ∧ expF n = a ∧ a ≤ x ∧ (n = 320 ∨ (n < 320 ∧ ∃ b, expF (n + 1) = b ∧ x < b)) ∧ expF k = g ∧ logF g = m ∧ k ≤ m ∧ m ≤ 320 ∧ expF m = g := by
  obtain ⟨n, h1, h2, h3, h4⟩ := logF_spec hx
  obtain ⟨m, m1, m2, m3, m4⟩ := logF_spec (v := gain k.toNat) (gain_bd (by omega)).1
  have hkm : k.toNat ≤ m := by
    rcases Nat.lt_or_ge m k.toNat with h | h
    · have := gain_mono (m := m + 1) (n := k.toNat) h (by omega)
      omega
    · exact h
  have hge := gain_mono hkm m2
  refine ⟨n, gain k.toNat, m, gain n, h1, by omega, by omega, expF_nat h2, h3, ?_, expF_in h0 hk, m1, by omega, by omega, ?_⟩
  · rcases h4 with rfl | h4
    · exact .inl rfl
    · by_cases hn : n = 320
      · exact .inl (by omega)
      · exact .inr ⟨by omega, gain (n + 1), by rw [expF_in (by omega) (by omega)]; rfl, h4⟩
  · rw [expF_nat m2]; omega

set_option maxHeartbeats 400000 in
theorem meets_law (v e : Int) (w : World) (hv : 0 ≤ v) (hv2 : v ≤ 4294967295) (he : 0 ≤ e) (he2 : e ≤ 65535) (h : Hid (Steps w)) :
    Calls Tryd.prog 6 #[.int .u32 v, .int .u16 e] w fun x w' => x = .returned (.bool true) ∧ Below w.heap.size w w' := by
  have ht : v.tmod 1048576 = v % 1048576 := Int.tmod_eq_emod_of_nonneg hv
  have ht2 : e.tmod 321 = e % 321 := Int.tmod_eq_emod_of_nonneg he
  obtain ⟨n, g, m, a, e1, n0, n1, e2, ha, hor, e3, e4, hkm, hm, e5⟩ := meet_facts (x := v % 1048576 + 1) (k := e % 321) (by omega) (by omega) (by omega)
  have H1 : Hid _ := e1
  have H2 : Hid _ := e2
  have H3 : Hid _ := e3
  have H4 : Hid _ := e4
  have H5 : Hid _ := e5
  clear e1 e2 e3 e4 e5
  rcases hor with rfl | ⟨hn, b, e6, hb⟩
  · go_enter Tryd.func6, Tryd.ntmps6
    go_wp2_with fail
    refine (awake_p _ h).mono ?_
    rintro x w' ⟨rfl, rfl⟩
    go_wp2_with fail
    refine (log_any _ _ h).mono ?_
    rintro x w' ⟨rfl, rfl⟩
    rw [H1.out]
    go_wp2_with fail
    refine (exp_any _ _ h).mono ?_
    rintro x w' ⟨rfl, rfl⟩
    rw [H3.out]
    go_wp2_with fail
    refine (log_any _ _ h).mono ?_
    rintro x w' ⟨rfl, rfl⟩
    rw [H4.out]
    go_wp2_with fail
    refine (exp_any _ _ h).mono ?_
    rintro x w' ⟨rfl, rfl⟩
    rw [H2.out]
    go_wp2_with fail
    refine (exp_any _ _ h).mono ?_
    rintro x w' ⟨rfl, rfl⟩
    rw [H5.out]
    go_wp2_with fail
    refine (exp_any _ _ h).mono ?_
    rintro x w' ⟨rfl, rfl⟩
    rw [H3.out]
    go_wp2
    all_goals go_ret
    all_goals exact ⟨ret_true (by simp), Below.refl _ _⟩
  · have H6 : Hid _ := e6
    clear e6
    go_enter Tryd.func6, Tryd.ntmps6
    go_wp2_with fail
    refine (awake_p _ h).mono ?_
    rintro x w' ⟨rfl, rfl⟩
    go_wp2_with fail
    refine (log_any _ _ h).mono ?_
    rintro x w' ⟨rfl, rfl⟩
    rw [H1.out]
    go_wp2_with fail
    refine (exp_any _ _ h).mono ?_
    rintro x w' ⟨rfl, rfl⟩
    rw [H3.out]
    go_wp2_with fail
    refine (log_any _ _ h).mono ?_
    rintro x w' ⟨rfl, rfl⟩
    rw [H4.out]
    go_wp2_with fail
    refine (exp_any _ _ h).mono ?_
    rintro x w' ⟨rfl, rfl⟩
    rw [H2.out]
    go_wp2_with fail
    refine (exp_any _ _ h).mono ?_
    rintro x w' ⟨rfl, rfl⟩
    rw [H6.out]
    go_wp2_with fail
    refine (exp_any _ _ h).mono ?_
    rintro x w' ⟨rfl, rfl⟩
    rw [H5.out]
    go_wp2_with fail
    refine (exp_any _ _ h).mono ?_
    rintro x w' ⟨rfl, rfl⟩
    rw [H3.out]
    go_wp2
    all_goals go_ret
    all_goals exact ⟨ret_true (by simp), Below.refl _ _⟩

theorem fine_tab : fineF 0 0 = 0 ∧ fineF 0 1 = -2 ∧ fineF 1 1 = 2 ∧ fineF 0 2 = -3 ∧ fineF 1 2 = -1 ∧ fineF 2 2 = 1 ∧ fineF 3 2 = 3 ∧
    fineF 0 3 = -4 ∧ fineF 1 3 = -3 ∧ fineF 2 3 = -2 ∧ fineF 3 3 = -1 ∧ fineF 4 3 = 0 ∧ fineF 5 3 = 1 ∧ fineF 6 3 = 2 ∧ fineF 7 3 = 3 := by decide +kernel

set_option maxHeartbeats 4000000 in
theorem fines_law (q f : Int) (w : World) (hq : 0 ≤ q) (hq2 : q ≤ 255) (hf : 0 ≤ f) (hf2 : f ≤ 255) (h : Hid (Steps w)) :
    Calls Tryd.prog 7 #[.int .u8 q, .int .u8 f] w fun x w' => x = .returned (.bool true) ∧ Below w.heap.size w w' := by
  have T : Hid _ := fine_tab
  have hcase : (f.tmod 3 = 0 ∧ q.tmod 1 = 0) ∨ (f.tmod 3 = 1 ∧ q.tmod 2 = 0) ∨ (f.tmod 3 = 1 ∧ q.tmod 2 = 1) ∨ (f.tmod 3 = 2 ∧ q.tmod 4 = 0) ∨ (f.tmod 3 = 2 ∧ q.tmod 4 = 1) ∨ (f.tmod 3 = 2 ∧ q.tmod 4 = 2) ∨ (f.tmod 3 = 2 ∧ q.tmod 4 = 3) := by
    rw [Int.tmod_eq_emod_of_nonneg hf, Int.tmod_eq_emod_of_nonneg hq, Int.tmod_eq_emod_of_nonneg hq, Int.tmod_eq_emod_of_nonneg hq]; omega
  rcases hcase with ⟨hk, hn⟩ | ⟨hk, hn⟩ | ⟨hk, hn⟩ | ⟨hk, hn⟩ | ⟨hk, hn⟩ | ⟨hk, hn⟩ | ⟨hk, hn⟩
  all_goals
    go_enter Tryd.func7, Tryd.ntmps7
    go_wp2_with fail
    refine (awake_p _ h).mono ?_
    rintro x w' ⟨rfl, rfl⟩
    go_wp2_with fail
    refine (fine_any _ _ _).mono ?_
    rintro x w' ⟨rfl, rfl⟩
    simp only [T.out]
    go_wp2_with fail
    refine (fine_any _ _ _).mono ?_
    rintro x w' ⟨rfl, rfl⟩
    simp only [T.out]
    go_wp2_with fail
    refine (fine_any _ _ _).mono ?_
    rintro x w' ⟨rfl, rfl⟩
    simp only [T.out]
    go_wp2
    all_goals go_ret
    all_goals exact ⟨ret_true (by simp), Below.refl _ _⟩
end Go.Proofs.YtbodpghheclakaaDoor
