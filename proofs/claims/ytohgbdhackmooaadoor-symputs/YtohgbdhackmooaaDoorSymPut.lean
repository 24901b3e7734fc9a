/-
  What PutUint and PutStep of package sym do with a writer: the number's symbol and its raw bits are put, or it is refused. Nothing that was there has turned but the writer's own block.
-/
import Derived.Test.YtohgbdhackmooaaDoorSymCalls
namespace Go.Proofs.YtohgbdhackmooaaDoor
set_option linter.unusedVariables false
open Go.ChangeShapes Go.WideShapes Go.ChangeAt Go.RowKit

theorem wrap_i64 {x : Int} (h0 : -9223372036854775808 ≤ x) (h1 : x ≤ 9223372036854775807) : IntKind.i64.wrap x = x := by simp [IntKind.wrap, IntKind.bits, IntKind.signed]; omega
theorem wrap_u64 {x : Int} (h0 : 0 ≤ x) (h1 : x ≤ 18446744073709551615) : IntKind.u64.wrap x = x := by simp [IntKind.wrap, IntKind.bits, IntKind.signed]; omega

theorem putuint_bad (w : World) (b : Nat) (v t : Int) (h : ¬ (1 ≤ t ∧ t ≤ 16777216 ∧ 0 ≤ v ∧ v < t)) :
    Calls Tryd.prog 25 #[.pointer (some ⟨b, 0, none⟩), .int .i64 v, .int .i64 t] w fun e w' => e = .returned (.int .i64 1) ∧ w' = w := by
  by_cases h1 : 1 ≤ t ∧ t ≤ 16777216
  · by_cases h2 : v < 0
    · go_enter Tryd.func25, Tryd.ntmps25
      go_wp2_with (go_at_call 40; refine (right_yes _ _ h1.1 h1.2).mono ?_; rintro e w1 ⟨rfl, rfl⟩)
      go_ret
      exact ⟨rfl, rfl⟩
    · have h3 : t ≤ v := by omega
      have h4 : decide (v < 0) = false := by simp; omega
      go_enter Tryd.func25, Tryd.ntmps25
      go_wp2_with (go_at_call 40; refine (right_yes _ _ h1.1 h1.2).mono ?_; rintro e w1 ⟨rfl, rfl⟩)
      go_ret
      exact ⟨rfl, rfl⟩
  · go_enter Tryd.func25, Tryd.ntmps25
    go_wp2_with (go_at_call 40; refine (right_no _ _ h1).mono ?_; rintro e w1 ⟨rfl, rfl⟩)
    go_ret
    exact ⟨rfl, rfl⟩

theorem lowF_pow {v : Int} {s : Nat} (hs : s ≤ 16) : lowF v s = v % 2 ^ s := by
  unfold lowF clamp p2
  rw [if_neg (by omega), if_neg (by omega), Int.toNat_natCast]

set_option maxRecDepth 20000 in
theorem putuint_wr (w : World) (b z : Nat) (m : Mo) (v t q : Int) (s : Nat) (hz : z ≤ 1275) (hn : m.nD ≤ 500000) (hk : m.nR ≤ 500000) (v0 : 0 ≤ v) (v1 : v < t) (hg : Hid m.Good) (hs : Hid (Sp t q s)) (hw : Hid (WrAt w b z m)) :
    Calls Tryd.prog 25 #[.pointer (some ⟨b, 0, none⟩), .int .i64 v, .int .i64 t] w fun e w' => e = .returned (.int .i64 0) ∧ WrAt w' b z (m.num v q s) ∧ w.grownBy w' (some b) := by
  have t1 := hs.out.t1
  have t2 := hs.out.t2
  have s2 := hs.out.s2
  have qb := hs.out.q_bd
  have vb := hs.out.v_bd v0 v1
  have HM : Hid _ := hs.out.may v0 v1
  have hn1 := put_nD m (v / 2 ^ s) (v / 2 ^ s + 1) q
  have hn2 := (put_nR m (v / 2 ^ s) (v / 2 ^ s + 1) q).1
  have f0 : decide (v < 0) = false := by simp; omega
  have f1 : decide (t ≤ v) = false := by simp; omega
  have hE : m.num v q s = Mo.raw s (v % 2 ^ s) (m.put (v / 2 ^ s) (v / 2 ^ s + 1) q) := rfl
  have HE : Hid _ := hE
  clear hE
  by_cases h0 : s = 0
  · subst h0
    have e1 : v / 2 ^ 0 = v := by simp
    rw [e1] at HM hn1 hn2 vb HE
    have HR : Hid (Mo.raw 0 (v % 2 ^ 0) (m.put v (v + 1) q) = m.put v (v + 1) q) := rfl
    go_enter Tryd.func25, Tryd.ntmps25
    go_wp2_with (first
      | (go_at_call 40; refine (right_yes _ _ t1 t2).mono ?_; rintro e w1 ⟨rfl, rfl⟩)
      | (go_at_call 41; refine (split_any _ q 0 _ hs).mono ?_; rintro e w1 ⟨rfl, rfl⟩)
      | (go_at_call 84; refine (put_wr _ b z m v (v + 1) q hz (by omega) (by omega) hg HM hw).mono ?_; rintro e w2 ⟨rfl, HW2, HB2⟩; replace HW2 : Hid (WrAt w2 b z (m.put v (v + 1) q)) := HW2; replace HB2 : Hid _ := HB2))
    go_ret
    exact ⟨rfl, by rw [HE.out, HR.out]; exact HW2.out, HB2.out⟩
  · have hs0 : ¬ ((s : Int) = 0) := by omega
    have hs1 : (s : Int) < 64 := by omega
    have hs2 : ¬ ((s : Int) < 0) := by omega
    have e2 : IntKind.u64.wrap v = v := wrap_u64 (by omega) (by omega)
    have hl : lowF v s = v % 2 ^ s := lowF_pow s2
    have p := pow_pos' s
    have p2 : (2 : Int) ^ s ≤ 65536 := by
      have := pow_le' s2
      have : (2 : Int) ^ 16 = 65536 := by decide
      omega
    have r0 : 0 ≤ v % 2 ^ s := Int.emod_nonneg _ (by omega)
    have r1 : v % 2 ^ s < 2 ^ s := Int.emod_lt_of_pos _ p
    have e3 : IntKind.u32.wrap (v % 2 ^ s) = v % 2 ^ s := wrap_u32 r0 (by omega)
    have HR : Hid (MayRaw (v % 2 ^ s) s) := by
      have h16 : (s : Int) ≤ 16 := by omega
      exact ⟨by omega, h16, by rw [Int.toNat_natCast]; exact r1⟩
    have HV : Hid (v / 2 ^ s = v / 2 ^ s) := rfl
    obtain ⟨u, hu⟩ : ∃ u, v / 2 ^ s = u := ⟨_, rfl⟩
    obtain ⟨y, hy⟩ : ∃ y, v % 2 ^ s = y := ⟨_, rfl⟩
    rw [hu] at HM hn1 hn2 vb HE
    rw [hy] at hl e3 r0 r1 HR HE
    have nm2 : (m.put u (u + 1) q).nD ≤ 600000 := by omega
    have nk2 : (m.put u (u + 1) q).nR ≤ 600000 := by omega
    have y1 : y < 4294967296 := by omega
    have u1 : u ≤ 255 := by omega
    clear p p2 r1 hy hn1 hn2 HV
    go_enter Tryd.func25, Tryd.ntmps25
    go_wp2_with (first
      | (go_at_call 40; refine (right_yes _ _ t1 t2).mono ?_; rintro e w1 ⟨rfl, rfl⟩)
      | (go_at_call 41; refine (split_any _ q s _ hs).mono ?_; rintro e w1 ⟨rfl, rfl⟩)
      | (go_at_call 84; refine (put_wr _ b z m u (u + 1) q hz (by omega) (by omega) hg HM hw).mono ?_; rintro e w2 ⟨rfl, HW2, HB2⟩; replace HW2 : Hid (WrAt w2 b z (m.put u (u + 1) q)) := HW2; replace HB2 : Hid _ := HB2)
      | (go_at_call 46; refine (low_any v s _ v0 (by omega)).mono ?_; rintro e w1 ⟨rfl, rfl⟩; rw [hl])
      | (go_at_call 85; refine (raw_wr _ b z (m.put u (u + 1) q) y s hz nm2 nk2 r0 y1 HR HW2).mono ?_; rintro e w3 ⟨rfl, HW3, HB3⟩; replace HW3 : Hid (WrAt w3 b z (Mo.raw s y (m.put u (u + 1) q))) := HW3; replace HB3 : Hid _ := HB3))
    go_ret
    exact ⟨rfl, by rw [HE.out]; exact HW3.out, grown_trans HB2.out HB3.out⟩

end Go.Proofs.YtohgbdhackmooaaDoor
