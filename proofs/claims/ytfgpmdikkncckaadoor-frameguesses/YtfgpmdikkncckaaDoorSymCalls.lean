/-
  What the functions of package sym answer that touch no memory (right, split), and math/bits.Len below 2^24. Nothing that was there has turned.
-/
import Derived.Test.YtfgpmdikkncckaaDoorSymMath
import Derived.Test.YtfgpmdikkncckaaDoorWriterLaws
import Derived.Test.YtfgpmdikkncckaaDoorFixCalls
import Derived.Handy
namespace Go.Proofs.YtfgpmdikkncckaaDoor
set_option linter.unusedVariables false
open Go.ChangeShapes Go.WideShapes Go.ChangeAt Go.RowKit

theorem sright_no (t : Int) (w : World) (h : ¬ (1 ≤ t ∧ t ≤ 16777216)) :
    Calls Tryd.prog 48 #[.int .i64 t] w fun e w' => e = .returned (.bool false) ∧ w' = w := by
  by_cases h1 : t < 1
  · go_enter Tryd.func48, Tryd.ntmps48
    go_wp2
    go_ret
    exact ⟨rfl, rfl⟩
  · have h2 : decide (t ≤ 16777216) = false := by simp; omega
    go_enter Tryd.func48, Tryd.ntmps48
    go_wp2
    go_ret
    exact ⟨rfl, rfl⟩
theorem sright_yes (t : Int) (w : World) (h1 : 1 ≤ t) (h2 : t ≤ 16777216) :
    Calls Tryd.prog 48 #[.int .i64 t] w fun e w' => e = .returned (.bool true) ∧ w' = w := by
  go_enter Tryd.func48, Tryd.ntmps48
  go_wp2
  go_ret
  exact ⟨rfl, rfl⟩

def isLenB (x : Nat) (n : Nat) : Bool := decide (x < 2 ^ n) && (decide (n = 0) || decide (2 ^ (n - 1) ≤ x)) && decide (n ≤ 8)
theorem stab_ok (T : ByteArray) (hT : (List.range 256).all (fun i => if h : i < T.size then isLenB i T[i].toNat else false) = true) (i : Nat) (hi : i < 256) (h : i < T.size) : IsLen i T[i].toNat ∧ T[i].toNat ≤ 8 := by
  have h1 := List.all_eq_true.1 hT i (List.mem_range.2 hi)
  rw [dif_pos h] at h1
  unfold isLenB at h1
  simp only [Bool.and_eq_true, Bool.or_eq_true, decide_eq_true_eq] at h1
  obtain ⟨⟨h1, h2⟩, h3⟩ := h1
  refine ⟨⟨by omega, by exact_mod_cast h1, ?_⟩, h3⟩
  rcases h2 with e | e
  · exact .inl e
  · exact .inr (by exact_mod_cast e)
theorem slen_fin (T : ByteArray) (hT : (List.range 256).all (fun i => if h : i < T.size then isLenB i T[i].toNat else false) = true) (x P D : Int) (d : Nat) (hd : d ≤ 16) (hD : D = d) (hP : P = 2 ^ d) (hx : d = 0 ∨ P ≤ x) (h0 : 0 ≤ x / P) (h1 : x / P < 256) (w : World) (h : (x / P).toNat < T.size) :
    ∃ n : Nat, Ending.returned (.int .i64 (wrap64 (D + wrap64 T[(x / P).toNat].toNat))) = .returned (.int .i64 n) ∧ IsLen x n ∧ w = w := by
  obtain ⟨k1, k2⟩ := stab_ok T hT (x / P).toNat (by omega) h
  generalize T[(x / P).toNat].toNat = k at *
  refine ⟨d + k, ?_, ?_, rfl⟩
  · have e : wrap64 (k : Int) = k := by unfold wrap64; omega
    rw [e, hD]
    have e2 : wrap64 ((d : Int) + (k : Int)) = ((d + k : Nat) : Int) := by unfold wrap64; omega
    rw [e2]
  · rw [show ((x / P).toNat : Int) = x / 2 ^ d by rw [hP] at h0 ⊢; omega] at k1
    rcases hx with e | e
    · subst e
      rw [Nat.zero_add]
      simpa using k1
    · rw [hP] at e
      exact k1.more e
theorem slen_low (T : ByteArray) (hT : (List.range 256).all (fun i => if h : i < T.size then isLenB i T[i].toNat else false) = true) (x : Int) (h0 : 0 ≤ x) (h1 : x < 256) (w : World) (h : x.toNat < T.size) :
    ∃ n : Nat, Ending.returned (.int .i64 (wrap64 (wrap64 T[x.toNat].toNat))) = .returned (.int .i64 n) ∧ IsLen x n ∧ w = w := by
  obtain ⟨k1, k2⟩ := stab_ok T hT x.toNat (by omega) h
  generalize T[x.toNat].toNat = k at *
  refine ⟨k, ?_, ?_, rfl⟩
  · have e : wrap64 (k : Int) = k := by unfold wrap64; omega
    rw [e, e]
  · rw [show (x.toNat : Int) = x by omega] at k1
    exact k1

set_option maxRecDepth 20000 in
theorem slen64_any (x : Int) (w : World) (h0 : 0 ≤ x) (h1 : x < 16777216) :
    Calls Tryd.prog 53 #[.int .u64 x] w fun e w' => ∃ n : Nat, e = .returned (.int .i64 n) ∧ IsLen x n ∧ w' = w := by
  by_cases h2 : 65536 ≤ x
  · go_enter Tryd.func53, Tryd.ntmps53
    go_wp2
    go_ret
    exact slen_fin _ (by decide +kernel) x 65536 16 16 (by decide) rfl rfl (.inr h2) (by omega) (by omega) w _
  · by_cases h3 : 256 ≤ x
    · have h4 : x < 65536 := by omega
      clear h2
      go_enter Tryd.func53, Tryd.ntmps53
      go_wp2
      go_ret
      exact slen_fin _ (by decide +kernel) x 256 8 8 (by decide) rfl rfl (.inr h3) (by omega) (by omega) w _
    · have h4 : x < 256 := by omega
      clear h2 h3
      go_enter Tryd.func53, Tryd.ntmps53
      go_wp2
      go_ret
      refine slen_low _ ?_ x h0 h4 w _; decide +kernel

set_option maxRecDepth 20000 in
theorem len_any (x : Int) (w : World) (h0 : 0 ≤ x) (h1 : x < 16777216) :
    Calls Tryd.prog 54 #[.int .u64 x] w fun e w' => ∃ n : Nat, e = .returned (.int .i64 n) ∧ IsLen x n ∧ w' = w := by
  go_enter Tryd.func54, Tryd.ntmps54
  go_wp2_with (go_at_call 53; refine (slen64_any x _ h0 h1).mono ?_; rintro e w1 ⟨n, rfl, hn, rfl⟩; replace hn : Hid (IsLen x n) := hn)
  go_ret
  exact ⟨n, rfl, hn.out, rfl⟩

theorem len_is (x : Int) (n : Nat) (w : World) (h1 : x < 16777216) (h : Hid (IsLen x n)) :
    Calls Tryd.prog 54 #[.int .u64 x] w fun e w' => e = .returned (.int .i64 n) ∧ w' = w := by
  refine (len_any x w h.out.nn h1).mono ?_
  rintro e w' ⟨k, rfl, hk, rfl⟩
  exact ⟨by rw [h.out.unique hk], rfl⟩

theorem split_any (t q : Int) (s : Nat) (w : World) (h : Hid (Sp t q s)) :
    Calls Tryd.prog 49 #[.int .i64 t] w fun e w' => e = .returned (.tuple #[.int .i64 q, .int .i64 s]) ∧ w' = w := by
  have t1 := h.out.t1
  have t2 := h.out.t2
  have e2 : IntKind.u64.wrap (t - 1) = t - 1 := by simp [IntKind.wrap, IntKind.bits, IntKind.signed]; omega
  obtain ⟨n, q', s', hl, hs, hn, hn24⟩ := sp_ex t1 t2
  obtain ⟨rfl, rfl⟩ := hs.unique h.out
  have hq := hs.q
  have hqb := hs.q_bd
  have HL : Hid (IsLen (t - 1) n) := hl
  by_cases h8 : n ≤ 8
  · obtain rfl : s' = 0 := by omega
    have hq' : q' = t := by rw [hq]; simp
    subst hq'
    have e3 : ((n : Int) - 8) ≤ 0 := by omega
    clear hq hl hs hn h
    go_enter Tryd.func49, Tryd.ntmps49
    go_wp2_with (go_at_call 54; refine (len_is _ n _ (by omega) HL).mono ?_; rintro e w1 ⟨rfl, rfl⟩)
    go_returns
    exact ⟨rfl, rfl⟩
  · have hn' : (n : Int) - 8 = s' := by omega
    have hs0 : (0 : Int) < s' := by omega
    have hs1 : (s' : Int) < 64 := by omega
    have hq' : IntKind.i64.wrap ((t - 1) / 2 ^ s' + 1) = q' := by rw [hq]; simp [IntKind.wrap, IntKind.bits, IntKind.signed]; omega
    clear hq hl hs hn h h8
    go_enter Tryd.func49, Tryd.ntmps49
    go_wp2_with (go_at_call 54; refine (len_is _ n _ (by omega) HL).mono ?_; rintro e w1 ⟨rfl, rfl⟩)
    go_returns
    exact ⟨rfl, rfl⟩

end Go.Proofs.YtfgpmdikkncckaaDoor
