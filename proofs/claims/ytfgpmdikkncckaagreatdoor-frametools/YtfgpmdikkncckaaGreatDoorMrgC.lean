/-
  How many vectors there are, of up to 16 numbers with up to 32 pulses, as a table; that it keeps to the sum of three, to the document's own sum of products, and to the number of lists. No condition; no program.
  A book: a struct that holds a map whose keys are pairs of numbers and whose elements are numbers without a sign, or no map yet. The key's law, what a key reads as, what is looked up and what is noted. No condition.
  What New, V, Has and their helpers of package count do: how many vectors there are is answered, and what was needed is noted in the book. Nothing that was there is turned but the book's own block and its map.
  What the document's own answers for layer 10 are: Choose and V of package spinetref10. They compute alone: no memory is made or turned.
  The laws CountTells, CountGrows and CountNotes of layer 10 (count) as walks: called at any input each returns true, and nothing that was there has turned.
-/
import Derived.KernelRfl
import Derived.Test.YtfgpmdikkncckaaGreatDoorRows
import Derived.Maps.OwnOps
import Derived.Maps.OwnSet
import Derived.Maps.Views
import Derived.DeepKeys4
import Derived.WalkArith
import Derived.WalkKit
import Derived.Below
import Derived.ProofKit
import Derived.OpenShut
import Derived.WalkSpells
import Derived.Handy
import Derived.WalkLawsBesides
import Derived.Deep.QuietTactic
import Derived.BigQuiet
import Derived.WalkSmall
import Derived.Deep.RegionLaw
import Derived.BigRegion
import Derived.RegionTactic
namespace Go.Proofs.YtfgpmdikkncckaaGreatDoor
set_option linter.unusedVariables false

def vT : List (List Nat) := [
  [1, 0, 0, 0, 0, 0, 0, 0, 0, 0, 0, 0, 0, 0, 0, 0, 0, 0, 0, 0, 0, 0, 0, 0, 0, 0, 0, 0, 0, 0, 0, 0, 0],
  [1, 2, 2, 2, 2, 2, 2, 2, 2, 2, 2, 2, 2, 2, 2, 2, 2, 2, 2, 2, 2, 2, 2, 2, 2, 2, 2, 2, 2, 2, 2, 2, 2],
  [1, 4, 8, 12, 16, 20, 24, 28, 32, 36, 40, 44, 48, 52, 56, 60, 64, 68, 72, 76, 80, 84, 88, 92, 96, 100, 104, 108, 112, 116, 120, 124, 128],
  [1, 6, 18, 38, 66, 102, 146, 198, 258, 326, 402, 486, 578, 678, 786, 902, 1026, 1158, 1298, 1446, 1602, 1766, 1938, 2118, 2306, 2502, 2706, 2918, 3138, 3366, 3602, 3846, 4098],
  [1, 8, 32, 88, 192, 360, 608, 952, 1408, 1992, 2720, 3608, 4672, 5928, 7392, 9080, 11008, 13192, 15648, 18392, 21440, 24808, 28512, 32568, 36992, 41800, 47008, 52632, 58688, 65192, 72160, 79608, 87552],
  [1, 10, 50, 170, 450, 1002, 1970, 3530, 5890, 9290, 14002, 20330, 28610, 39210, 52530, 69002, 89090, 113290, 142130, 176170, 216002, 262250, 315570, 376650, 446210, 525002, 613810, 713450, 824770, 948650, 1086002, 1237770, 1404930],
  [1, 12, 72, 292, 912, 2364, 5336, 10836, 20256, 35436, 58728, 93060, 142000, 209820, 301560, 423092, 581184, 783564, 1038984, 1357284, 1749456, 2227708, 2805528, 3497748, 4320608, 5291820, 6430632, 7757892, 9296112, 11069532, 13104184, 15427956, 18070656],
  [1, 14, 98, 462, 1666, 4942, 12642, 28814, 59906, 115598, 209762, 361550, 596610, 948430, 1459810, 2184462, 3188738, 4553486, 6376034, 8772302, 11879042, 15856206, 20889442, 27192718, 35011074, 44623502, 56345954, 70534478, 87588482, 107954126, 132127842, 160659982, 194158594],
  [1, 16, 128, 688, 2816, 9424, 27008, 68464, 157184, 332688, 658048, 1229360, 2187520, 3732560, 6140800, 9785072, 15158272, 22900496, 33830016, 48978352, 69629696, 97364944, 134110592, 182192752, 244396544, 324031120, 425000576, 551881008, 710003968, 905546576, 1145628544, 1438416368, 1793234944],
  [1, 18, 162, 978, 4482, 16722, 53154, 148626, 374274, 864146, 1854882, 3742290, 7159170, 13079250, 22952610, 38878482, 63821826, 101880594, 158611106, 241419474, 360027522, 527022162, 758497698, 1074801042, 1501390338, 2069818002, 2818849698, 3795731282, 5057616258, 6673166802, 8724341922, 11308386834, 14540038146],
  [1, 20, 200, 1340, 6800, 28004, 97880, 299660, 822560, 2060980, 4780008, 10377180, 21278640, 41517060, 77548920, 139380012, 242080320, 407782740, 668274440, 1068305020, 1669752016, 2556801700, 3842321560, 5675620300, 8251811680, 11823020020, 16711687720, 23326268700, 32179616240, 43910399300, 59307908024, 79340636780, 105189061760],
  [1, 22, 242, 1782, 9922, 44726, 170610, 568150, 1690370, 4573910, 11414898, 26572086, 58227906, 121023606, 240089586, 457018518, 838478850, 1488341910, 2564399090, 4300978550, 7039035586, 11265589302, 17664712562, 27182654422, 41110086402, 61184918102, 89719625842, 129757582262, 185263467202, 261353482742, 364571790066, 503220334870, 687750033410],
  [1, 24, 288, 2312, 14016, 68664, 284000, 1022760, 3281280, 9545560, 25534368, 63521352, 148321344, 327572856, 688686048, 1385794152, 2681291520, 5008112280, 9060853280, 15926230920, 27266245056, 45570869944, 74501171808, 119348538792, 187641279616, 289936284120, 440840828064, 660318036168, 975339085632, 1421956035576, 2047881308384, 2915673433320, 4106643801600],
  [1, 26, 338, 2938, 19266, 101946, 454610, 1761370, 6065410, 18892250, 53972178, 143027898, 354870594, 830764794, 1847023698, 3921503898, 7988589570, 15677993370, 29746958930, 54734043130, 97926519106, 170763634106, 290835675858, 484685386458, 791675204866, 1269252768602, 2000029880786, 3101188745018, 4736845866818, 7134140988026, 10603978331986, 15567533073690, 22589850308610],
  [1, 28, 392, 3668, 25872, 147084, 703640, 2919620, 10746400, 35704060, 108568488, 305568564, 803467056, 1989102444, 4666890936, 10435418532, 22345512000, 46012094940, 91437047240, 175918049300, 328578611536, 597268764748, 1058868074712, 1834389137028, 3110749728352, 5171677701820, 8440960351208, 13542178977012, 21380213588848, 33251200443692, 50989319763704, 77160831169380, 115318214551680],
  [1, 30, 450, 4510, 34050, 207006, 1057730, 4680990, 18347010, 64797470, 209070018, 623207070, 1732242690, 4524812190, 11180805570, 26283115038, 59064045570, 127421652510, 264870794690, 532225891230, 1036722552066, 1962569928350, 3618706767810, 6511963979550, 11457102844930, 19739530275102, 33352168328130, 55335307656350, 90257700222210, 144889114254750, 229129634462146, 357279785395230, 549758831116290],
  [1, 32, 512, 5472, 44032, 285088, 1549824, 7288544, 30316544, 113461024, 387328512, 1219605600, 3575055360, 9832110240, 25537728000, 63001648608, 148348809216, 334834507296, 727126954496, 1524223640416, 3093172083712, 6092464564128, 11673741260288, 21804412007648, 39773478832128, 70970111952160, 124061810555392, 212749286539872, 358342294418432, 593489108895392, 967507857612288, 1553917277469664, 2460955893981184]]
def vv (n k : Nat) : Nat := (vT.getD n []).getD k 0

/-- A check of two numbers below bounds. -/
def all2 (a b : Nat) (p : Nat → Nat → Bool) : Bool := (List.range a).all fun n => (List.range b).all fun k => p n k
theorem all2_at {a b : Nat} {p : Nat → Nat → Bool} (h : all2 a b p = true) {n k : Nat} (hn : n < a) (hk : k < b) : p n k = true :=
  List.all_eq_true.1 (List.all_eq_true.1 h n (List.mem_range.2 hn)) k (List.mem_range.2 hk)

theorem chk_sum : all2 16 32 (fun n k => Nat.beq (vv (n + 1) (k + 1)) (vv n (k + 1) + vv (n + 1) k + vv n k)) = true := by kernel_rfl
theorem chk_one : all2 17 1 (fun n k => Nat.beq (vv n 0) 1) = true := by kernel_rfl
theorem chk_none : all2 1 32 (fun n k => Nat.beq (vv 0 (k + 1)) 0) = true := by kernel_rfl
theorem chk_bd : all2 17 33 (fun n k => Nat.ble (vv n k) 2460955893981184) = true := by kernel_rfl
theorem vv_sum {n k : Nat} (hn : n < 16) (hk : k < 32) : vv (n + 1) (k + 1) = vv n (k + 1) + vv (n + 1) k + vv n k := Nat.eq_of_beq_eq_true (all2_at chk_sum hn hk)
theorem vv_one {n : Nat} (hn : n ≤ 16) : vv n 0 = 1 := Nat.eq_of_beq_eq_true (all2_at chk_one (by omega) (k := 0) (by omega))
theorem vv_none {k : Nat} (hk : k < 32) : vv 0 (k + 1) = 0 := Nat.eq_of_beq_eq_true (all2_at chk_none (n := 0) (by omega) hk)
theorem vv_bd {n k : Nat} (hn : n ≤ 16) (hk : k ≤ 32) : vv n k ≤ 2460955893981184 := Nat.le_of_ble_eq_true (all2_at chk_bd (by omega) (by omega))

/-- In how many ways i are chosen of n, step by step. -/
def chL (n : Nat) : Nat → Nat
  | 0 => 1
  | i + 1 => chL n i * (n - i) / (i + 1)
def ch (n k : Nat) : Nat := if k ≤ n then chL n k else 0
/-- The document's sum, up to j numbers that aren't 0. -/
def rsm (n k : Nat) : Nat → Nat
  | 0 => 0
  | j + 1 => rsm n k j + 2 ^ (j + 1) * ch n (j + 1) * ch (k - 1) j
theorem chk_ch : all2 32 33 (fun n i => Nat.ble (chL n i) 300540195) = true := by kernel_rfl
theorem chk_ch16 : all2 17 18 (fun n i => Nat.ble (ch n i) 12870) = true := by kernel_rfl
theorem chk_ref : all2 17 32 (fun n k => Nat.beq (rsm n (k + 1) n) (vv n (k + 1))) = true := by kernel_rfl
theorem chL_bd {n i : Nat} (hn : n ≤ 31) (hi : i ≤ 32) : chL n i ≤ 300540195 := Nat.le_of_ble_eq_true (all2_at chk_ch (by omega) (by omega))
theorem ch_bd {n i : Nat} (hn : n ≤ 31) (hi : i ≤ 32) : ch n i ≤ 300540195 := by unfold ch; split; exact chL_bd hn hi; omega
theorem ch_bd16 {n i : Nat} (hn : n ≤ 16) (hi : i ≤ 17) : ch n i ≤ 12870 := Nat.le_of_ble_eq_true (all2_at chk_ch16 (by omega) (by omega))
theorem rsm_is {n k : Nat} (hn : n ≤ 16) (hk : k < 32) : rsm n (k + 1) n = vv n (k + 1) := Nat.eq_of_beq_eq_true (all2_at chk_ref (by omega) hk)

theorem chk_more : all2 14 31 (fun n k => Nat.blt (vv (n + 2) (k + 1)) (vv (n + 2) (k + 2)) && Nat.blt (vv (n + 2) (k + 1)) (vv (n + 3) (k + 1)) && Nat.beq (vv (n + 2) (k + 1) % 2) 0) = true := by kernel_rfl
theorem vv_more {n k : Nat} (hn : n < 14) (hk : k < 31) : vv (n + 2) (k + 1) < vv (n + 2) (k + 2) ∧ vv (n + 2) (k + 1) < vv (n + 3) (k + 1) ∧ vv (n + 2) (k + 1) % 2 = 0 := by
  have h := all2_at chk_more hn hk
  simp only [Bool.and_eq_true] at h
  exact ⟨Nat.le_of_ble_eq_true h.1.1, Nat.le_of_ble_eq_true h.1.2, Nat.eq_of_beq_eq_true h.2⟩

/-- All vectors of n numbers with k pulses, in order: by the magnitude of the first number, the one without a sign first. -/
def allL : Nat → Nat → List (List Int)
  | 0, k => if k = 0 then [[]] else []
  | n + 1, k => (List.range (k + 1)).flatMap fun m => (allL n (k - m)).map (fun r => (m : Int) :: r) ++ (if m = 0 then [] else (allL n (k - m)).map (fun r => -(m : Int) :: r))
theorem chk_lists : all2 5 6 (fun n k => Nat.beq (allL n k).length (vv n k)) = true := by kernel_rfl
theorem lists_is {n k : Nat} (hn : n < 5) (hk : k < 6) : (allL n k).length = vv n k := Nat.eq_of_beq_eq_true (all2_at chk_lists hn hk)

/-- How many vectors there are, of any numbers: none outside. -/
def vI (n k : Int) : Nat := if 0 ≤ n ∧ n ≤ 16 ∧ 0 ≤ k ∧ k ≤ 32 then vv n.toNat k.toNat else 0
theorem vI_bd (n k : Int) : vI n k ≤ 2460955893981184 := by unfold vI; split; exact vv_bd (by omega) (by omega); omega
theorem vI_out {n k : Int} (h : ¬ (0 ≤ n ∧ n ≤ 16 ∧ 0 ≤ k ∧ k ≤ 32)) : vI n k = 0 := if_neg h
theorem vI_one {n : Int} (h0 : 0 ≤ n) (h1 : n ≤ 16) : vI n 0 = 1 := by unfold vI; rw [if_pos ⟨h0, h1, by omega, by omega⟩]; exact vv_one (by omega)
theorem vI_none {k : Int} (h0 : 0 < k) : vI 0 k = 0 := by
  unfold vI
  split
  · obtain ⟨j, rfl⟩ : ∃ j : Nat, k = j + 1 := ⟨(k - 1).toNat, by omega⟩
    exact vv_none (by omega)
  · rfl
theorem vI_sum {n k : Int} (h1 : 1 ≤ n) (h2 : n ≤ 16) (h3 : 1 ≤ k) (h4 : k ≤ 32) : vI n k = vI (n - 1) k + vI n (k - 1) + vI (n - 1) (k - 1) := by
  obtain ⟨i, rfl⟩ : ∃ i : Nat, n = i + 1 := ⟨(n - 1).toNat, by omega⟩
  obtain ⟨j, rfl⟩ : ∃ j : Nat, k = j + 1 := ⟨(k - 1).toNat, by omega⟩
  have h := vv_sum (n := i) (k := j) (by omega) (by omega)
  have e1 : (i : Int) + 1 - 1 = i := by omega
  have e2 : (j : Int) + 1 - 1 = j := by omega
  unfold vI
  rw [e1, e2, if_pos (by omega), if_pos (by omega), if_pos (by omega), if_pos (by omega)]
  exact h

/-- What is noted: a set of pairs. -/
def bx (n k i j : Int) : Bool := decide (n ≤ 16 ∧ k ≤ 32 ∧ 1 ≤ i ∧ i ≤ n ∧ 1 ≤ j ∧ j ≤ k)
def un (S : Int → Int → Bool) (n k : Int) (i j : Int) : Bool := S i j || bx n k i j
def put1 (S : Int → Int → Bool) (n k : Int) (i j : Int) : Bool := S i j || decide (i = n ∧ j = k)
def noS (_ _ : Int) : Bool := false
def Ok (S : Int → Int → Bool) : Prop := ∀ i j, S i j = true → (1 ≤ i ∧ i ≤ 16 ∧ 1 ≤ j ∧ j ≤ 32) ∧ ∀ i' j', 1 ≤ i' → i' ≤ i → 1 ≤ j' → j' ≤ j → S i' j' = true
theorem bx_true {n k i j : Int} : bx n k i j = true ↔ (n ≤ 16 ∧ k ≤ 32 ∧ 1 ≤ i ∧ i ≤ n ∧ 1 ≤ j ∧ j ≤ k) := decide_eq_true_iff
theorem un_true {S : Int → Int → Bool} {n k i j : Int} : un S n k i j = true ↔ (S i j = true ∨ bx n k i j = true) := by unfold un; exact Bool.or_eq_true _ _ |>.to_iff
theorem Ok.no : Ok noS := fun i j h => by cases h
theorem Ok.un {S : Int → Int → Bool} (h : Ok S) (n k : Int) : Ok (un S n k) := by
  intro i j hij
  rcases un_true.1 hij with h1 | h1
  · obtain ⟨a, b⟩ := h i j h1
    exact ⟨a, fun i' j' c1 c2 c3 c4 => un_true.2 (.inl (b i' j' c1 c2 c3 c4))⟩
  · rw [bx_true] at h1
    exact ⟨by omega, fun i' j' c1 c2 c3 c4 => un_true.2 (.inr (bx_true.2 (by omega)))⟩
theorem un_ext {S T : Int → Int → Bool} (h : ∀ i j, S i j = true ↔ T i j = true) : S = T := by
  funext i j
  rw [Bool.eq_iff_iff]
  exact h i j
theorem un_have {S : Int → Int → Bool} (h : Ok S) {n k : Int} (hs : S n k = true) : un S n k = S := by
  apply un_ext
  intro i j
  rw [un_true, bx_true]
  constructor
  · rintro (h1 | h1)
    · exact h1
    · exact (h n k hs).2 i j (by omega) (by omega) (by omega) (by omega)
  · exact .inl
theorem un_out {S : Int → Int → Bool} {n k : Int} (h : ¬ (1 ≤ n ∧ n ≤ 16 ∧ 1 ≤ k ∧ k ≤ 32)) : un S n k = S := by
  apply un_ext
  intro i j
  rw [un_true, bx_true]
  constructor
  · rintro (h1 | h1)
    · exact h1
    · omega
  · exact .inl
theorem un_step {S : Int → Int → Bool} {n k : Int} (h : 1 ≤ n ∧ n ≤ 16 ∧ 1 ≤ k ∧ k ≤ 32) : put1 (un (un (un S (n - 1) k) n (k - 1)) (n - 1) (k - 1)) n k = un S n k := by
  apply un_ext
  intro i j
  unfold put1
  rw [Bool.or_eq_true, un_true, un_true, un_true, un_true, bx_true, bx_true, bx_true, bx_true, decide_eq_true_iff]
  constructor
  · rintro ((((h1 | h1) | h1) | h1) | h1)
    · exact .inl h1
    · right; omega
    · right; omega
    · right; omega
    · right; omega
  · rintro (h1 | h1)
    · exact .inl (.inl (.inl (.inl h1)))
    · by_cases e1 : i ≤ n - 1
      · exact .inl (.inl (.inl (.inr (by omega))))
      · by_cases e2 : j ≤ k - 1
        · exact .inl (.inl (.inr (by omega)))
        · right; omega
theorem un_new {S : Int → Int → Bool} (h : Ok S) {n k : Int} (hs : S n k = false) (hn : 1 ≤ n ∧ 1 ≤ k) : un (un (un S (n - 1) k) n (k - 1)) (n - 1) (k - 1) n k = false := by
  rw [Bool.eq_false_iff]
  intro e
  rw [un_true, un_true, un_true, bx_true, bx_true, bx_true, hs] at e
  rcases e with ((e | e) | e) | e
  · cases e
  · omega
  · omega
  · omega

/-- How many pairs are noted, at most. -/
def card (S : Int → Int → Bool) : Nat := (List.range 512).countP fun q => S ((q / 32 : Nat) + 1) ((q % 32 : Nat) + 1)
theorem card_le (S : Int → Int → Bool) : card S ≤ 512 := by
  have := List.countP_le_length (l := List.range 512) (p := fun q => S ((q / 32 : Nat) + 1) ((q % 32 : Nat) + 1))
  rw [List.length_range] at this
  exact this
theorem countP_more {p p' : Nat → Bool} (hp : ∀ q, p q = true → p' q = true) {q0 : Nat} (h0 : p q0 = false) (h1 : p' q0 = true) : ∀ l : List Nat, q0 ∈ l → l.countP p + 1 ≤ l.countP p'
  | [], h => by cases h
  | a :: l, h => by
    rw [List.countP_cons, List.countP_cons]
    have hm : l.countP p ≤ l.countP p' := List.countP_mono_left (fun x _ hx => hp x hx)
    by_cases e : a = q0
    · subst e
      rw [h0, h1]
      simp
      omega
    · have ih := countP_more hp h0 h1 l (by rcases List.mem_cons.1 h with h2 | h2; exact absurd h2.symm e; exact h2)
      by_cases ha : p a = true
      · rw [ha, hp a ha]; simp; omega
      · rw [Bool.eq_false_iff.2 ha]
        simp
        omega
theorem card_put {S : Int → Int → Bool} {n k : Int} (h : 1 ≤ n ∧ n ≤ 16 ∧ 1 ≤ k ∧ k ≤ 32) (hs : S n k = false) : card S + 1 ≤ card (put1 S n k) := by
  have e1 : ((((n - 1).toNat * 32 + (k - 1).toNat) / 32 : Nat) : Int) + 1 = n := by omega
  have e2 : ((((n - 1).toNat * 32 + (k - 1).toNat) % 32 : Nat) : Int) + 1 = k := by omega
  refine countP_more (q0 := (n - 1).toNat * 32 + (k - 1).toNat) (fun q hq => ?_) ?_ ?_ _ (List.mem_range.2 (by omega))
  · unfold put1; rw [hq]; rfl
  · rw [e1, e2]; exact hs
  · rw [e1, e2]; unfold put1; simp
theorem card_no : card noS = 0 := by
  unfold card
  rw [List.countP_eq_zero]
  intro a _
  simp [noS]
end Go.Proofs.YtfgpmdikkncckaaGreatDoor
namespace Go.Proofs.YtfgpmdikkncckaaGreatDoor
set_option linter.unusedVariables false
set_option maxRecDepth 100000
open Go.ChangeMaps Go.MapKept Go.RowKit
open Go.WideElems (Fit rd rg pl rd_val elemAt)
open Go.WideMaps (KeyLaw)
open Go.Maps (Keyed)

theorem laidOut : laidOutB Tryz.prog = true := by kernel_rfl
theorem pairRow : (177 : TypeId) < Tryz.prog.types.size := of_decide_eq_true (by kernel_rfl)
theorem pairWide : (match Tryz.prog.underlying 177 with | some (.array _ _) | some (.struct _) => true | _ => false) = true := by rw [Tryz.underlying177]
theorem pairLaw : KeyLaw Tryz.prog 177 := deep_law_laid laidOut (m := 2) (by omega) pairRow (by kernel_rfl) pairWide
theorem pairKeyed : Keyed Tryz.prog 177 := Keyed.of_law pairLaw
theorem zeroU (w : World) : (zeroValue 62).run Tryz.prog w = .ok (.int .u64 0) w := by kernel_rfl

/-- What a pair reads as, as a key. -/
def kl (s c : Int) : Lit := .string (keyBytes [.int .i64 s, .int .i64 c])
theorem key_md {s c : Int} (hs : (Lit.int .i64 s).wf = true) (hc : (Lit.int .i64 c).wf = true) : keyOf Tryz.prog 177 (.agg #[.int .i64 (s), .int .i64 (c)]) = some (kl s c) := by
  have hk : Tryz.prog.keyType 177 = true := by kernel_rfl
  have hf : (Value.agg #[Value.int .i64 s, .int .i64 c]).formed Tryz.prog 177 = true := by kernel_rfl
  obtain ⟨m, hm⟩ : ∃ m, Tryz.prog.types.size = m + 1 := ⟨Tryz.prog.types.size - 1, (Nat.sub_add_cancel (Nat.lt_of_le_of_lt (Nat.zero_le 177) pairRow)).symm⟩
  have c1 : Tryz.prog.cellsOf 3 = 1 := by kernel_rfl
  have c2 : Tryz.prog.cellsOf 177 = 2 := by kernel_rfl
  unfold keyOf
  simp only [Tryz.underlying177]
  rw [if_pos (by simp [hk, hf]), hm]
  simp [Program.keyLits, Tryz.underlying177, Tryz.underlying3, Value.cells, c1, c2, hs, hc, kl, List.mapM_cons]
theorem kl_inj {s c s' c' : Int} (hs : (Lit.int .i64 s).wf = true) (hc : (Lit.int .i64 c).wf = true) (hs' : (Lit.int .i64 s').wf = true) (hc' : (Lit.int .i64 c').wf = true) (h : kl s c = kl s' c') : s = s' ∧ c = c' := by
  have := pairLaw.inj (key_md hs hc) (h ▸ key_md hs' hc')
  simpa using this
theorem kl_key (s c : Int) : WideAt.IsKeyLit (kl s c) := trivial

/-- What the map of a book reads as. -/
def Notes (S : Int → Int → Bool) (D : DataW Unit) : Prop :=
  ∀ i j : Int, (Lit.int .i64 i).wf = true → (Lit.int .i64 j).wf = true → Maps.has D (kl i j) = S i j ∧ (S i j = true → D.atKey (kl i j) (.lit (.int .u64 0)) = .lit (.int .u64 (vI i j : Nat)))
theorem Notes.no : Notes noS (.map []) := fun i j _ _ => ⟨rfl, fun h => by cases h⟩
theorem Notes.put {S : Int → Int → Bool} {D : DataW Unit} (h : Notes S D) (hT : Maps.IsMap D) {n k : Int} (hn : (Lit.int .i64 n).wf = true) (hk : (Lit.int .i64 k).wf = true) : Notes (put1 S n k) (D.put (kl n k) (.lit (.int .u64 (vI n k : Nat)))) := by
  intro i j hi hj
  by_cases e : i = n ∧ j = k
  · obtain ⟨rfl, rfl⟩ := e
    rw [Maps.has_put_same hT (kl_key _ _), Maps.atKey_put_same hT (kl_key _ _)]
    exact ⟨by unfold put1; simp, fun _ => rfl⟩
  · have hne : kl i j ≠ kl n k := fun h' => e (kl_inj hi hj hn hk h')
    rw [Maps.has_put_other hne, Maps.atKey_put_other hne]
    have : put1 S n k i j = S i j := by unfold put1; rw [decide_eq_false e, Bool.or_false]
    rw [this]
    exact h i j hi hj

/-- A book lies at block b, with its map at mo (where there is one), and just S is noted in it. -/
def BkAt (w : World) (b : Nat) (mo : Option Nat) (S : Int → Int → Bool) : Prop :=
  w.heap[b]? = some (.cells #[.map mo] 117 (0, 0)) ∧ ((mo = none ∧ S = noS) ∨ ∃ (m : Nat) (D : DataW Unit), mo = some m ∧ w.ownsMap Tryz.prog 177 (plainElem Tryz.prog 62) m (card S) D ∧ Notes S D)
/-- What a call on a book does to the world: it writes its block and its map, and makes new blocks. -/
structure Gb (w w' : World) (b : Nat) (mo mo' : Option Nat) : Prop where
  os : w'.os = w.os
  tape : w'.tape = w.tape
  output : w'.output = w.output
  size : w.heap.size ≤ w'.heap.size
  block : ∀ i, i < w.heap.size → i ≠ b → some i ≠ mo → w'.heap[i]? = w.heap[i]?
  map : mo' = mo ∨ ∃ m, mo' = some m ∧ w.heap.size ≤ m

section
variable {w w' w'' : World} {b : Nat} {mo mo' mo'' : Option Nat} {S : Int → Int → Bool}
theorem gN_refl (w : World) : w.grownBy w none := ⟨rfl, rfl, rfl, Nat.le_refl _, fun _ _ _ => rfl⟩
theorem gN_drew (h : w.grownBy w' none) : w.grownBy w'.drew none := ⟨h.os, h.tape, h.output, h.size, h.block⟩
theorem gN_trans (h : w.grownBy w' none) (h' : w'.grownBy w'' none) : w.grownBy w'' none := ⟨h'.os.trans h.os, h'.tape.trans h.tape, h'.output.trans h.output, Nat.le_trans h.size h'.size, fun i hi hn => (h'.block i (Nat.lt_of_lt_of_le hi h.size) hn).trans (h.block i hi hn)⟩
theorem gN_alloc (h : w.grownBy w' none) (o : Obj) : w.grownBy (w'.alloc o) none := gN_trans h (World.grownBy_alloc w' o none)
theorem gN_below (h : w.grownBy w' none) : Below w.heap.size w w' := ⟨h.os, h.tape, h.output, h.size, fun i hi => h.block i hi (by simp)⟩
theorem BkAt.lt (h : BkAt w b mo S) : b < w.heap.size := (Array.getElem?_eq_some_iff.1 h.1).1
theorem BkAt.mlt (h : BkAt w b mo S) {m : Nat} (e : mo = some m) : m < w.heap.size := by
  rcases h.2 with ⟨rfl, _⟩ | ⟨m', D, rfl, ho, _⟩
  · cases e
  · cases e; exact ho.lt
theorem BkAt.ne (h : BkAt w b mo S) : mo ≠ some b := by
  intro e
  rcases h.2 with ⟨rfl, _⟩ | ⟨m', D, rfl, ho, _⟩
  · cases e
  · cases e
    obtain ⟨es, c, hb, _⟩ := ho
    rw [h.1] at hb
    cases hb
theorem BkAt.cell (h : BkAt w b mo S) : w.cell? ⟨b, 0, none⟩ = some (.map mo) := cell_of_row _ _ 0 _ _ _ h.1
theorem BkAt.free (h : BkAt w b mo S) (o : Nat) : w.frozen? ⟨b, o, none⟩ = false := frozen_of_row _ _ o _ _ h.1
theorem BkAt.apart (h : BkAt w b mo S) {i : Nat} {c : Array Value} {t : TypeId} {z : Nat × Nat} (hi : w.heap[i]? = some (.cells c t z)) : some i ≠ mo := by
  intro e
  rcases h.2 with ⟨rfl, _⟩ | ⟨m', D, rfl, ho, _⟩
  · cases e
  · cases e
    obtain ⟨es, c, hb, _⟩ := ho
    rw [hi] at hb
    cases hb
theorem BkAt.kept {row : Option Nat} (h : BkAt w b mo S) (hg : w.grownBy w' row) (h1 : some b ≠ row) (h2 : ∀ m, mo = some m → some m ≠ row) : BkAt w' b mo S := by
  refine ⟨(hg.block b h.lt h1).trans h.1, ?_⟩
  rcases h.2 with h0 | ⟨m', D, rfl, ho, hN⟩
  · exact .inl h0
  · exact .inr ⟨m', D, rfl, ho.kept hg (h2 m' rfl), hN⟩
theorem BkAt.keep (h : BkAt w b mo S) (hg : w.grownBy w' none) : BkAt w' b mo S := h.kept hg (by simp) (by simp)
theorem BkAt.alloc (h : BkAt w b mo S) (o : Obj) : BkAt (w.alloc o) b mo S := h.keep (World.grownBy_alloc w o none)
theorem BkAt.drew (h : BkAt w b mo S) : BkAt w.drew b mo S := h
theorem BkAt.below (h : BkAt w b mo S) (hb : Below w.heap.size w w') : BkAt w' b mo S := h.keep ⟨hb.os, hb.tape, hb.output, hb.size, fun k hk _ => hb.block k hk⟩
theorem BkAt.set (h : BkAt w b mo S) {c : Array Value} {t : TypeId} {z : Nat × Nat} {i : Nat} (hi : w.heap[i]? = some (.cells c t z)) (hne : i ≠ b) (o : Nat) (v : Value) : BkAt (w.setCell ⟨i, o, none⟩ v) b mo S := by
  have hx := h.apart hi
  have hq : ∀ j, j ≠ i → (w.setCell ⟨i, o, none⟩ v).heap[j]? = w.heap[j]? := fun j hj => Below.heap_setCell _ _ _ _ (by exact hj)
  refine ⟨(hq b (fun e => hne e.symm)).trans h.1, ?_⟩
  rcases h.2 with h0 | ⟨m', D, rfl, ho, hN⟩
  · exact .inl h0
  · exact .inr ⟨m', D, rfl, ho.setCell (by intro e; exact hx (by rw [e])) v, hN⟩

theorem Gb.refl (w : World) (b : Nat) (mo : Option Nat) : Gb w w b mo mo := ⟨rfl, rfl, rfl, Nat.le_refl _, fun _ _ _ _ => rfl, .inl rfl⟩
theorem Gb.trans (h : Gb w w' b mo mo') (h' : Gb w' w'' b mo' mo'') : Gb w w'' b mo mo'' := by
  have hs := h.size
  refine ⟨h'.os.trans h.os, h'.tape.trans h.tape, h'.output.trans h.output, Nat.le_trans h.size h'.size, fun i hi hb hm => ?_, ?_⟩
  · have hm' : some i ≠ mo' := by
      rcases h.map with e | ⟨m, e, hle⟩
      · rw [e]; exact hm
      · rw [e]; intro e2; cases e2; omega
    exact (h'.block i (by omega) hb hm').trans (h.block i hi hb hm)
  · rcases h'.map with e | ⟨m, e, hle⟩
    · rw [e]; exact h.map
    · exact .inr ⟨m, e, by omega⟩
theorem Gb.grown (hg : w.grownBy w' none) (b : Nat) (mo : Option Nat) : Gb w w' b mo mo := ⟨hg.os, hg.tape, hg.output, hg.size, fun i hi _ _ => hg.block i hi (by simp), .inl rfl⟩
theorem Gb.alloc (h : Gb w w' b mo mo') (o : Obj) : Gb w (w'.alloc o) b mo mo' := h.trans (Gb.grown (World.grownBy_alloc w' o none) b mo')
theorem Gb.drew (h : Gb w w' b mo mo') : Gb w w'.drew b mo mo' := ⟨h.os, h.tape, h.output, h.size, h.block, h.map⟩
theorem Gb.below (h : Gb w w' b mo mo') {lo : Nat} (hb : lo ≤ b) (hs : lo ≤ w.heap.size) (hm : ∀ m, mo = some m → lo ≤ m) : Below lo w w' :=
  ⟨h.os, h.tape, h.output, h.size, fun i hi => h.block i (by omega) (by omega) (fun e => by have := hm i e.symm; omega)⟩
theorem Gb.lo (h : Gb w w' b mo mo') {lo : Nat} (hs : lo ≤ w.heap.size) (hm : ∀ m, mo = some m → lo ≤ m) : ∀ m, mo' = some m → lo ≤ m := by
  intro m e
  rcases h.map with e1 | ⟨m1, e1, hle⟩
  · exact hm m (e1 ▸ e)
  · rw [e1] at e; cases e; omega
/-- What lies in cells is kept by a call on a book. -/
theorem Gb.cells (h : Gb w w' b mo mo') (hB : BkAt w b mo S) {i : Nat} {c : Array Value} {t : TypeId} {z : Nat × Nat} (hi : w.heap[i]? = some (.cells c t z)) (hne : i ≠ b) : w'.heap[i]? = some (.cells c t z) :=
  (h.block i (Array.getElem?_eq_some_iff.1 hi).1 hne (hB.apart hi)).trans hi

/-- What is looked up. -/
theorem BkAt.look (h : BkAt w b mo S) {n k : Int} (hn : (Lit.int .i64 n).wf = true) (hk : (Lit.int .i64 k).wf = true) :
    (Instr.lookup 115 (.map mo) (.agg #[.int .i64 (n), .int .i64 (k)]) true).run Tryz.prog w = .ok (.tuple #[.int .u64 (if S n k = true then (vI n k : Nat) else 0 : Nat), .bool (S n k)]) w := by
  rcases h.2 with ⟨rfl, rfl⟩ | ⟨m, D, rfl, ho, hN⟩
  · have := Maps.look_nil (w := w) true pairKeyed Tryz.underlying115 (zeroU w) (key_md hn hk)
    rw [this]
    rfl
  · obtain ⟨v, ps, hrun, hv⟩ := ho.look_ok pairKeyed Tryz.underlying115 (zeroU w) (plainElem_int Tryz.underlying62 (by decide)) (key_md hn hk)
    obtain ⟨c, rfl, hc, _⟩ := plainElem_int_inv Tryz.underlying62 hv
    obtain ⟨h1, h2⟩ := hN n k hn hk
    rw [hrun, h1]
    have hc1 := congrArg Prod.fst hc
    simp only at hc1
    by_cases hs : S n k = true
    · rw [h2 hs] at hc1
      injection hc1 with e
      injection e with _ e
      rw [if_pos hs, ← e]
    · have hs' : S n k = false := by simpa using hs
      rw [Maps.atKey_of_not_has (h1.trans hs')] at hc1
      injection hc1 with e
      injection e with _ e
      rw [if_neg hs, ← e]
      rfl
/-- What is noted, where there is a map. -/
theorem BkAt.note {m : Nat} (h : BkAt w b (some m) S) {n k : Int} (hin : 1 ≤ n ∧ n ≤ 16 ∧ 1 ≤ k ∧ k ≤ 32) (hs : S n k = false) :
    ∃ w', (Instr.mapUpdate 115 (.map (some m)) (.agg #[.int .i64 (n), .int .i64 (k)]) (.int .u64 (vI n k : Nat))).run Tryz.prog w = .ok () w' ∧ BkAt w' b (some m) (put1 S n k) ∧ Gb w w' b (some m) (some m) := by
  have hn : (Lit.int .i64 n).wf = true := WalkArith.wf_i64 (by omega)
  have hk : (Lit.int .i64 k).wf = true := WalkArith.wf_i64 (by omega)
  have hbd := vI_bd n k
  have hne := h.ne
  have hb := h.lt
  rcases h.2 with ⟨e, _⟩ | ⟨m', D, e, ho, hN⟩
  · cases e
  · cases e
    have hc := card_le S
    obtain ⟨w', hrun, own', grow'⟩ := ho.update pairKeyed Tryz.underlying115 (by unfold maxLen; omega) (key_md hn hk) (plainElem_int (H := Unit) Tryz.underlying62 (a := (vI n k : Nat)) (WalkArith.wf_u64 (by omega)))
    refine ⟨w', hrun, ⟨(grow'.block b hb (fun e => hne e.symm)).trans h.1, .inr ⟨m, _, rfl, own'.mono (card_put hin hs), hN.put ho.isMap hn hk⟩⟩, ⟨grow'.os, grow'.tape, grow'.output, grow'.size, fun i hi _ hm => grow'.block i hi hm, .inl rfl⟩⟩
/-- A map is made. -/
theorem BkAt.make (h : BkAt w b none S) : BkAt ((w.alloc (.map #[] 0)).setCell ⟨b, 0, none⟩ (.map (some w.heap.size))) b (some w.heap.size) S ∧ Gb w ((w.alloc (.map #[] 0)).setCell ⟨b, 0, none⟩ (.map (some w.heap.size))) b none (some w.heap.size) := by
  have hb := h.lt
  rcases h.2 with ⟨_, rfl⟩ | ⟨m', D, e, _⟩
  · refine ⟨⟨?_, .inr ⟨_, .map [], rfl, ?_, Notes.no⟩⟩, ?_⟩
    · have h0 : (w.alloc (.map #[] 0)).heap[b]? = some (.cells #[.map none] 117 (0, 0)) := by rw [heap_alloc_old _ _ hb]; exact h.1
      have h1 := heap_setCell_same _ b 0 _ 117 (.map (some w.heap.size)) h0
      simpa using h1
    · rw [card_no]
      exact (World.ownsMap_made w Tryz.prog 177 _).setCell (by show w.heap.size ≠ b; omega) _
    · refine ⟨rfl, rfl, rfl, by simp, fun i hi hne _ => ?_, .inr ⟨_, rfl, Nat.le_refl _⟩⟩
      rw [Below.heap_setCell _ _ _ _ (by exact hne), heap_alloc_old _ _ hi]
  · cases e
end
end Go.Proofs.YtfgpmdikkncckaaGreatDoor
namespace Go.Proofs.YtfgpmdikkncckaaGreatDoor
set_option linter.unusedVariables false
set_option maxRecDepth 100000
open Go.ChangeShapes Go.WideShapes Go.ChangeAt Go.RowKit

theorem numbers_any (w : World) (n : Int) : Calls Tryz.prog 139 #[.int .i64 n] w fun e w' => e = .returned (.bool (decide (0 ≤ n ∧ n ≤ 16))) ∧ w' = w := by
  by_cases h0 : 0 ≤ n
  · by_cases h1 : n ≤ 16
    · rw [decide_eq_true (show 0 ≤ n ∧ n ≤ 16 from ⟨h0, h1⟩)]
      go_enter Tryz.func139, Tryz.ntmps139
      go_wp2
      go_returns
      exact ⟨rfl, rfl⟩
    · rw [decide_eq_false (show ¬ (0 ≤ n ∧ n ≤ 16) from fun h => h1 h.2)]
      go_enter Tryz.func139, Tryz.ntmps139
      go_wp2
      go_returns
      exact ⟨rfl, rfl⟩
  · rw [decide_eq_false (show ¬ (0 ≤ n ∧ n ≤ 16) from fun h => h0 h.1)]
    go_enter Tryz.func139, Tryz.ntmps139
    go_wp2
    go_returns
    exact ⟨rfl, rfl⟩
theorem pulses_any (w : World) (n : Int) : Calls Tryz.prog 140 #[.int .i64 n] w fun e w' => e = .returned (.bool (decide (0 ≤ n ∧ n ≤ 32))) ∧ w' = w := by
  by_cases h0 : 0 ≤ n
  · by_cases h1 : n ≤ 32
    · rw [decide_eq_true (show 0 ≤ n ∧ n ≤ 32 from ⟨h0, h1⟩)]
      go_enter Tryz.func140, Tryz.ntmps140
      go_wp2
      go_returns
      exact ⟨rfl, rfl⟩
    · rw [decide_eq_false (show ¬ (0 ≤ n ∧ n ≤ 32) from fun h => h1 h.2)]
      go_enter Tryz.func140, Tryz.ntmps140
      go_wp2
      go_returns
      exact ⟨rfl, rfl⟩
  · rw [decide_eq_false (show ¬ (0 ≤ n ∧ n ≤ 32) from fun h => h0 h.1)]
    go_enter Tryz.func140, Tryz.ntmps140
    go_wp2
    go_returns
    exact ⟨rfl, rfl⟩

/-- New: a book in which nothing is noted. -/
theorem new_any (w : World) : Calls Tryz.prog 34 #[] w fun e w' => e = .returned (.pointer (some ⟨w.heap.size, 0, none⟩)) ∧ BkAt w' w.heap.size none noS ∧ Below w.heap.size w w' := by
  go_enter Tryz.func34, Tryz.ntmps34
  go_wp2
  go_returns
  exact ⟨rfl, ⟨by rw [heap_alloc_new], .inl ⟨rfl, rfl⟩⟩, (Below.refl _ _).alloc (Nat.le_refl _) _⟩

/-- Has. -/
theorem has_any (w : World) (b : Nat) (mo : Option Nat) (S : Int → Int → Bool) (n k : Int) (hn : Hid ((Lit.int .i64 n).wf = true)) (hk : Hid ((Lit.int .i64 k).wf = true)) (h : Hid (BkAt w b mo S)) :
    Calls Tryz.prog 158 #[.pointer (some ⟨b, 0, none⟩), (.agg #[.int .i64 (n), .int .i64 (k)])] w fun e w' => e = .returned (.bool (S n k)) ∧ w.grownBy w' none := by
  have hb := h.out.lt
  have c0 := h.out.cell
  have q0 := ((h.out.alloc (.cells #[.int .i64 n, .int .i64 k] 177)).drew).look hn.out hk.out
  obtain ⟨x, hx⟩ : ∃ x : Nat, (if S n k = true then (vI n k : Nat) else 0) = x := ⟨_, rfl⟩
  obtain ⟨y, hy⟩ : ∃ y : Bool, S n k = y := ⟨_, rfl⟩
  rw [hx, hy] at q0
  rw [hy]
  clear hx hy
  go_enter Tryz.func158, Tryz.ntmps158
  go_wp2
  go_region
  all_goals go_wp2
  all_goals go_returns
  all_goals exact ⟨rfl, gN_drew (World.grownBy_alloc w _ none)⟩

theorem nil_no (m : Nat) (w : World) : (binOp .eql 115 (.map (some m)) (.map none)).run Tryz.prog w = .ok (.bool false) w := by kernel_rfl
theorem nil_yes (w : World) : (binOp .eql 115 (.map none) (.map none)).run Tryz.prog w = .ok (.bool true) w := by kernel_rfl
section
attribute [local go_sem] nil_no nil_yes
/-- note. -/
theorem note_any (w : World) (b : Nat) (mo : Option Nat) (S : Int → Int → Bool) (n k : Int) (hin : 1 ≤ n ∧ n ≤ 16 ∧ 1 ≤ k ∧ k ≤ 32) (hs : S n k = false) (h : Hid (BkAt w b mo S)) :
    Calls Tryz.prog 141 #[.pointer (some ⟨b, 0, none⟩), (.agg #[.int .i64 (n), .int .i64 (k)]), .int .u64 (vI n k : Nat)] w fun e w' => e = .returned (.tuple #[]) ∧ ∃ mo', BkAt w' b mo' (put1 S n k) ∧ Gb w w' b mo mo' := by
  have hb := h.out.lt
  have hb1 : b ≠ w.heap.size := by omega
  have hmm := @run_makeMap Tryz.prog
  cases mo with
  | some m =>
    have c0 := h.out.cell
    have HA : Hid (BkAt (w.alloc (.cells #[.int .i64 n, .int .i64 k] 177)).drew b (some m) S) := (h.out.alloc _).drew
    obtain ⟨w2, q0, hB, hG⟩ := HA.out.note hin hs
    have HB : Hid (BkAt w2 b (some m) (put1 S n k)) := hB
    have HG : Hid (Gb w w2 b (some m) (some m)) := (((Gb.refl w b (some m)).alloc _).drew).trans hG
    clear hB hG HA
    go_enter Tryz.func141, Tryz.ntmps141
    go_wp2
    go_region
    all_goals go_wp2
    all_goals go_returns
    all_goals exact ⟨rfl, _, HB.out, HG.out⟩
  | none =>
    have c0 := h.out.cell
    have f0 := h.out.free 0
    have hM := (h.out.alloc (.cells #[.int .i64 n, .int .i64 k] 177)).make
    rw [World.setCell_alloc_past _ _ _ _ (by simp; omega), World.setCell_alloc_past _ _ _ _ hb] at hM
    obtain ⟨w2, q0, hB, hG⟩ := BkAt.note (BkAt.drew hM.1) hin hs
    have HB : Hid (BkAt w2 b (some (w.heap.size + 1)) (put1 S n k)) := by have := hB; simp only [World.size_alloc] at this; exact this
    have HG : Hid (Gb w w2 b none (some (w.heap.size + 1))) := by have := (((Gb.refl w b none).alloc _).trans hM.2.drew).trans hG; simp only [World.size_alloc] at this; exact this
    simp only [World.size_alloc] at q0
    clear hB hG hM
    go_enter Tryz.func141, Tryz.ntmps141
    go_wp2
    go_region
    all_goals go_wp2
    all_goals go_returns
    all_goals exact ⟨rfl, _, HB.out, HG.out⟩
end

theorem pair_keep {w w' : World} {b : Nat} {mo mo' : Option Nat} {S : Int → Int → Bool} {n k : Int} {t : TypeId} (hB : BkAt w b mo S) (hG : Gb (w.alloc (.cells #[.int .i64 n, .int .i64 k] t)).drew w' b mo mo') :
    w'.heap[w.heap.size]? = some (.cells #[.int .i64 n, .int .i64 k] t (0, 0)) := by
  have hb := hB.lt
  refine hG.cells (S := S) ((hB.alloc _).drew) ?_ (by omega)
  show (w.alloc _).heap[w.heap.size]? = _
  rw [heap_alloc_new]

set_option maxHeartbeats 1000000 in
/-- V, where nothing is to be noted. -/
theorem v_out (w : World) (b : Nat) (mo : Option Nat) (n k : Int) (h : ¬ (1 ≤ n ∧ n ≤ 16 ∧ 1 ≤ k ∧ k ≤ 32)) :
    Calls Tryz.prog 138 #[.pointer (some ⟨b, 0, none⟩), .int .i64 n, .int .i64 k] w fun e w' => e = .returned (.int .u64 (vI n k : Nat)) ∧ w' = w := by
  by_cases hn : 0 ≤ n ∧ n ≤ 16
  · have HN : Hid (decide (0 ≤ n ∧ n ≤ 16) = true) := decide_eq_true hn
    by_cases hk : 0 ≤ k ∧ k ≤ 32
    · have HK : Hid (decide (0 ≤ k ∧ k ≤ 32) = true) := decide_eq_true hk
      by_cases k0 : k = 0
      · subst k0
        rw [vI_one hn.1 hn.2]
        go_enter Tryz.func138, Tryz.ntmps138
        go_wp2_with (first | (go_at_call 139; refine (numbers_any _ _).mono ?_; rw [HN.out]; rintro e w1 ⟨rfl, hw⟩; obtain rfl := hw.symm) | (go_at_call 140; refine (pulses_any _ _).mono ?_; rw [HK.out]; rintro e w1 ⟨rfl, hw⟩; obtain rfl := hw.symm))
        go_returns
        exact ⟨rfl, rfl⟩
      · obtain rfl : n = 0 := by omega
        rw [vI_none (by omega)]
        go_enter Tryz.func138, Tryz.ntmps138
        go_wp2_with (first | (go_at_call 139; refine (numbers_any _ _).mono ?_; rw [HN.out]; rintro e w1 ⟨rfl, hw⟩; obtain rfl := hw.symm) | (go_at_call 140; refine (pulses_any _ _).mono ?_; rw [HK.out]; rintro e w1 ⟨rfl, hw⟩; obtain rfl := hw.symm))
        go_returns
        exact ⟨rfl, rfl⟩
    · have HK : Hid (decide (0 ≤ k ∧ k ≤ 32) = false) := decide_eq_false hk
      rw [vI_out (fun e => hk e.2.2)]
      go_enter Tryz.func138, Tryz.ntmps138
      go_wp2_with (first | (go_at_call 139; refine (numbers_any _ _).mono ?_; rw [HN.out]; rintro e w1 ⟨rfl, hw⟩; obtain rfl := hw.symm) | (go_at_call 140; refine (pulses_any _ _).mono ?_; rw [HK.out]; rintro e w1 ⟨rfl, hw⟩; obtain rfl := hw.symm))
      go_returns
      exact ⟨rfl, rfl⟩
  · have HN : Hid (decide (0 ≤ n ∧ n ≤ 16) = false) := decide_eq_false hn
    rw [vI_out (fun e => hn ⟨e.1, e.2.1⟩)]
    go_enter Tryz.func138, Tryz.ntmps138
    go_wp2_with (first | (go_at_call 139; refine (numbers_any _ _).mono ?_; rw [HN.out]; rintro e w1 ⟨rfl, hw⟩; obtain rfl := hw.symm) | (go_at_call 140; refine (pulses_any _ _).mono ?_; rw [HK.out]; rintro e w1 ⟨rfl, hw⟩; obtain rfl := hw.symm))
    go_returns
    exact ⟨rfl, rfl⟩

set_option maxHeartbeats 1000000 in
/-- V: how many there are; behind it just what was needed is noted, besides what was. -/
theorem v_any : ∀ (N : Nat) (w : World) (b : Nat) (mo : Option Nat) (S : Int → Int → Bool) (n k : Int), n.toNat + k.toNat ≤ N → Hid (BkAt w b mo S) → Hid (Ok S) →
    Calls Tryz.prog 138 #[.pointer (some ⟨b, 0, none⟩), .int .i64 n, .int .i64 k] w fun e w' => e = .returned (.int .u64 (vI n k : Nat)) ∧ ∃ mo', BkAt w' b mo' (un S n k) ∧ Gb w w' b mo mo' := by
  intro N
  induction N with
  | zero =>
    intro w b mo S n k hN h hO
    refine (v_out w b mo n k (by omega)).mono ?_
    rintro e w1 ⟨rfl, rfl⟩
    rw [un_out (by omega)]
    exact ⟨rfl, mo, h.out, Gb.refl _ _ _⟩
  | succ N ih =>
    intro w b mo S n k hN h hO
    by_cases hin : 1 ≤ n ∧ n ≤ 16 ∧ 1 ≤ k ∧ k ≤ 32
    · have HN : Hid (decide (0 ≤ n ∧ n ≤ 16) = true) := decide_eq_true (by omega)
      have HK : Hid (decide (0 ≤ k ∧ k ≤ 32) = true) := decide_eq_true (by omega)
      have hb := h.out.lt
      have c0 := h.out.cell
      have hn0 : ¬ n = 0 := by omega
      have hk0 : ¬ k = 0 := by omega
      have q0 := ((h.out.alloc (.cells #[.int .i64 n, .int .i64 k] 177)).drew).look (WalkArith.wf_i64 (by omega)) (WalkArith.wf_i64 (by omega)) (n := n) (k := k)
      have hv := vI_bd n k
      by_cases hs : S n k = true
      · rw [if_pos hs, hs] at q0
        have HU : Hid (un S n k = S) := un_have hO.out hs
        obtain ⟨v, hve⟩ : ∃ v, vI n k = v := ⟨_, rfl⟩
        rw [hve] at hv q0 ⊢
        clear hve
        go_enter Tryz.func138, Tryz.ntmps138
        go_wp2_with (first | (go_at_call 139; refine (numbers_any _ _).mono ?_; rw [HN.out]; rintro e w1 ⟨rfl, hw⟩; obtain rfl := hw.symm) | (go_at_call 140; refine (pulses_any _ _).mono ?_; rw [HK.out]; rintro e w1 ⟨rfl, hw⟩; obtain rfl := hw.symm))
        go_region
        all_goals go_wp2
        all_goals go_returns
        all_goals exact ⟨rfl, mo, by rw [HU.out]; exact (h.out.alloc _).drew, ((Gb.refl _ _ _).alloc _).drew⟩
      · have hs' : S n k = false := by simpa using hs
        rw [if_neg hs, hs'] at q0
        have HP : Hid (BkAt (w.alloc (.cells #[.int .i64 n, .int .i64 k] 177)).drew b mo S) := (h.out.alloc _).drew
        have HO1 : Hid (Ok (un S (n - 1) k)) := hO.out.un _ _
        have HO2 : Hid (Ok (un (un S (n - 1) k) n (k - 1))) := HO1.out.un _ _
        have HU : Hid _ := un_step (S := S) hin
        have HF : Hid _ := un_new hO.out hs' ⟨hin.1, hin.2.2.1⟩
        have HS : Hid _ := vI_sum hin.1 hin.2.1 hin.2.2.1 hin.2.2.2
        have b1 := vI_bd (n - 1) k
        have b2 := vI_bd n (k - 1)
        have b3 := vI_bd (n - 1) (k - 1)
        obtain ⟨h1, h2, h3, h4⟩ := hin
        go_enter Tryz.func138, Tryz.ntmps138
        go_wp2_with (first | (go_at_call 139; refine (numbers_any _ _).mono ?_; rw [HN.out]; rintro e w1 ⟨rfl, hw⟩; obtain rfl := hw.symm) | (go_at_call 140; refine (pulses_any _ _).mono ?_; rw [HK.out]; rintro e w1 ⟨rfl, hw⟩; obtain rfl := hw.symm))
        go_region
        all_goals go_wp2_with fail
        refine (ih _ b mo S (n - 1) k (by omega) HP hO).mono ?_
        rintro e w1 ⟨rfl, mo1, hB1, hG1⟩
        replace hB1 : Hid (BkAt w1 b mo1 (un S (n - 1) k)) := hB1
        replace hG1 : Hid (Gb (w.alloc (.cells #[.int .i64 n, .int .i64 k] 177)).drew w1 b mo mo1) := hG1
        go_wp2_with fail
        refine (ih _ b mo1 (un S (n - 1) k) n (k - 1) (by omega) hB1 HO1).mono ?_
        rintro e w2 ⟨rfl, mo2, hB2, hG2⟩
        replace hB2 : Hid (BkAt w2 b mo2 (un (un S (n - 1) k) n (k - 1))) := hB2
        replace hG2 : Hid (Gb w1 w2 b mo1 mo2) := hG2
        go_wp2_with fail
        refine (ih _ b mo2 (un (un S (n - 1) k) n (k - 1)) (n - 1) (k - 1) (by omega) hB2 HO2).mono ?_
        rintro e w3 ⟨rfl, mo3, hB3, hG3⟩
        replace hB3 : Hid (BkAt w3 b mo3 (un (un (un S (n - 1) k) n (k - 1)) (n - 1) (k - 1))) := hB3
        have HG : Hid (Gb (w.alloc (.cells #[.int .i64 n, .int .i64 k] 177)).drew w3 b mo mo3) := hG1.out.trans (hG2.out.trans hG3)
        clear hG3 hG1 hG2 hB1 hB2
        have hp := pair_keep h.out HG.out
        have p0 := cell_of_row w3 _ 0 _ _ _ hp
        have p1 := cell_of_row w3 _ 1 _ _ _ hp
        simp only [List.getElem?_toArray, List.getElem?_cons_zero, List.getElem?_cons_succ] at p0 p1
        clear hp
        go_wp2_with fail
        have hsum : (vI (n - 1) k : Int) + (vI n (k - 1) : Int) + (vI (n - 1) (k - 1) : Int) = (vI n k : Nat) := by rw [HS.out]; simp
        rw [hsum]
        have HSUM : Hid _ := hsum
        clear hsum
        refine (note_any _ b mo3 _ n k ⟨h1, h2, h3, h4⟩ HF.out hB3).mono ?_
        rw [HU.out]
        rintro e w4 ⟨rfl, mo4, hB4, hG4⟩
        replace hB4 : Hid (BkAt w4 b mo4 (un S n k)) := hB4
        have HG4 : Hid (Gb w w4 b mo mo4) := (((Gb.refl w b mo).alloc _).drew.trans HG.out).trans hG4
        clear hG4 hB3 HG
        go_wp2
        go_returns
        exact ⟨by first | rfl | rw [HSUM.out], mo4, hB4.out, HG4.out⟩
    · refine (v_out w b mo n k hin).mono ?_
      rintro e w1 ⟨rfl, rfl⟩
      rw [un_out hin]
      exact ⟨rfl, mo, h.out, Gb.refl _ _ _⟩
end Go.Proofs.YtfgpmdikkncckaaGreatDoor
namespace Go.Proofs.YtfgpmdikkncckaaGreatDoor
set_option linter.unusedVariables false
open Go.ChangeShapes Go.WideShapes Go.ChangeAt Go.RowKit

theorem ch_step {n i : Nat} (hi : i < n) (hn : n ≤ 31) (c : Nat) (hc : chL n i = c) : ((c : Int) * ((n : Int) - (i : Int))).tdiv ((i : Int) + 1) = (chL n (i + 1) : Nat) := by
  have e : (n : Int) - (i : Int) = ((n - i : Nat) : Int) := by omega
  have e2 : (i : Int) + 1 = ((i + 1 : Nat) : Int) := by omega
  rw [e, e2, ← Int.natCast_mul, chL, hc]
  rfl

set_option maxHeartbeats 1000000 in
theorem choose_any (w : World) (n k : Nat) (hn : n ≤ 31) (hk : k ≤ 31) : Calls Tryz.prog 82 #[.int .i64 n, .int .i64 k] w fun e w' => e = .returned (.int .u64 (ch n k : Nat)) ∧ w' = w := by
  have hk0 : ¬ (k : Int) < 0 := by omega
  by_cases h : k ≤ n
  · have hE : ch n k = chL n k := if_pos h
    rw [hE]
    clear hE
    have h' : ¬ (n : Int) < (k : Int) := by omega
    go_enter Tryz.func82, Tryz.ntmps82
    go_wp2
    go_loopw [5, 6] (fun c i wr => wr = w ∧ ∃ q : Nat, q ≤ k ∧ i = .int .i64 q ∧ c = .int .u64 (chL n q : Nat)) (fun _ i _ => k - (intOf i).toNat)
    case atStart => exact ⟨rfl, 0, by omega, rfl, rfl⟩
    case round =>
      obtain ⟨hw, q, hq, rfl, rfl⟩ := hrel
      obtain rfl := hw.symm
      by_cases hlt : q < k
      · have hlt' : (q : Int) < (k : Int) := by omega
        have hbd := chL_bd (n := n) (i := q) hn (by omega)
        obtain ⟨c, hc⟩ : ∃ c, chL n q = c := ⟨_, rfl⟩
        have hst := ch_step (by omega) hn c hc
        rw [hc] at hbd ⊢
        clear hc
        have m0 : 0 ≤ (c : Int) * ((n : Int) - (q : Int)) := Int.mul_nonneg (by omega) (by omega)
        have m1 : (c : Int) * ((n : Int) - (q : Int)) ≤ 300540195 * 31 := Int.mul_le_mul (by omega) (by omega) (by omega) (by omega)
        have hq0 : ¬ (q : Int) + 1 = 0 := by omega
        have hbd2 := chL_bd (n := n) (i := q + 1) hn (by omega)
        go_wp2
        exact ⟨⟨trivial, q + 1, by omega, by go_num, rfl⟩, by simp [intOf]; omega⟩
      · obtain rfl : q = k := by omega
        go_wp2
        go_returns
        exact ⟨rfl, rfl⟩
  · have hE : ch n k = 0 := if_neg h
    rw [hE]
    have h' : (n : Int) < (k : Int) := by omega
    go_enter Tryz.func82, Tryz.ntmps82
    go_wp2
    go_returns
    exact ⟨rfl, rfl⟩

theorem rsm_bd {n k : Nat} (hn : n ≤ 16) (hk : k ≤ 32) : ∀ q, q ≤ n → rsm n k q ≤ q * 253490122565222400
  | 0, _ => Nat.le_refl _
  | q + 1, h => by
    have ih := rsm_bd hn hk q (by omega)
    have h1 : 2 ^ (q + 1) ≤ 65536 := Nat.le_trans (Nat.pow_le_pow_right (by omega) (show q + 1 ≤ 16 by omega)) (by decide)
    have h2 := ch_bd16 (n := n) (i := q + 1) hn (by omega)
    have h3 := ch_bd (n := k - 1) (i := q) (by omega) (by omega)
    have h4 : 2 ^ (q + 1) * ch n (q + 1) * ch (k - 1) q ≤ 65536 * 12870 * 300540195 := Nat.mul_le_mul (Nat.mul_le_mul h1 h2) h3
    rw [rsm]
    omega

set_option maxHeartbeats 1000000 in
theorem rv_in (w : World) (n k : Nat) (hn : n ≤ 16) (hk : k ≤ 31) : Calls Tryz.prog 56 #[.int .i64 n, .int .i64 ((k : Int) + 1)] w fun e w' => e = .returned (.int .u64 (rsm n (k + 1) n : Nat)) ∧ w' = w := by
  have hk0 : ¬ (k : Int) + 1 = 0 := by omega
  have hk1 : ¬ (k : Int) + 1 < 0 := by omega
  have hk2 : ¬ 32 < (k : Int) + 1 := by omega
  have hn1 : ¬ (n : Int) < 0 := by omega
  have hn2 : ¬ 16 < (n : Int) := by omega
  go_enter Tryz.func56, Tryz.ntmps56
  go_wp2
  go_loopw [5, 6, 7] (fun s g i wr => wr = w ∧ ∃ q : Nat, q ≤ n ∧ i = .int .i64 ((q : Int) + 1) ∧ g = .int .u64 ((2 ^ q : Nat) : Int) ∧ s = .int .u64 (rsm n (k + 1) q : Nat)) (fun _ _ i _ => n + 1 - (intOf i).toNat)
  case atStart => exact ⟨rfl, 0, by omega, rfl, rfl, rfl⟩
  case round =>
    obtain ⟨hw, q, hq, rfl, rfl, rfl⟩ := hrel
    obtain rfl := hw.symm
    by_cases hlt : q < n
    · have hlt' : (q : Int) + 1 ≤ (n : Int) := by omega
      have h1 : 2 ^ q ≤ 32768 := Nat.le_trans (Nat.pow_le_pow_right (by omega) (show q ≤ 15 by omega)) (by decide)
      have h2 := ch_bd16 (n := n) (i := q + 1) hn (by omega)
      have h3 := ch_bd (n := k) (i := q) (by omega) (by omega)
      have h4 := rsm_bd (n := n) (k := k + 1) hn (by omega) q hq
      have h5 := rsm_bd (n := n) (k := k + 1) hn (by omega) (q + 1) (by omega)
      have hst : rsm n (k + 1) (q + 1) = rsm n (k + 1) q + 2 ^ q * 2 * ch n (q + 1) * ch k q := by rw [rsm, Nat.pow_succ]; rfl
      have hpw : 2 ^ (q + 1) = 2 ^ q * 2 := Nat.pow_succ ..
      obtain ⟨g, hg⟩ : ∃ g, 2 ^ q = g := ⟨_, rfl⟩
      obtain ⟨c1, hc1⟩ : ∃ c, ch n (q + 1) = c := ⟨_, rfl⟩
      obtain ⟨c2, hc2⟩ : ∃ c, ch k q = c := ⟨_, rfl⟩
      obtain ⟨r, hr⟩ : ∃ c, rsm n (k + 1) q = c := ⟨_, rfl⟩
      rw [hst] at h5
      rw [hg, hc1, hc2, hr] at h5 hst
      rw [hg] at h1 hpw ⊢
      rw [hc1] at h2
      rw [hc2] at h3
      rw [hr] at h4 ⊢
      have HC1 : Hid _ := hc1
      have HC2 : Hid _ := hc2
      have HST : Hid _ := hst
      have HPW : Hid _ := hpw
      clear hc1 hc2 hst hpw hg hr
      have m0 : 0 ≤ (g : Int) * 2 * (c1 : Int) := Int.mul_nonneg (by omega) (by omega)
      have m1 : (g : Int) * 2 * (c1 : Int) ≤ 65536 * 12870 := Int.mul_le_mul (by omega) (by omega) (by omega) (by omega)
      have m2 : 0 ≤ (g : Int) * 2 * (c1 : Int) * (c2 : Int) := Int.mul_nonneg m0 (by omega)
      have m3 : (g : Int) * 2 * (c1 : Int) * (c2 : Int) ≤ 253490122565222400 := Int.le_trans (Int.mul_le_mul m1 (show (c2 : Int) ≤ 300540195 by omega) (by omega) (by omega)) (by decide)
      have h5' : (r : Int) + (g : Int) * 2 * (c1 : Int) * (c2 : Int) ≤ 4309332083608780800 := by omega
      clear h5 h4
      go_wp2_with fail
      refine (choose_any _ n (q + 1) (by omega) (by omega)).mono ?_
      rw [HC1.out]
      rintro e w1 ⟨rfl, hw⟩
      obtain rfl := hw.symm
      go_wp2_with fail
      refine (choose_any _ k q (by omega) (by omega)).mono ?_
      rw [HC2.out]
      rintro e w1 ⟨rfl, hw⟩
      obtain rfl := hw.symm
      go_wp2
      exact ⟨⟨trivial, q + 1, by omega, by go_num, by rw [HPW.out]; simp, by rw [HST.out]; simp⟩, by simp [intOf]; omega⟩
    · obtain rfl : q = n := by omega
      go_wp2
      go_returns
      exact ⟨rfl, rfl⟩

theorem rv_any (w : World) (n k : Int) : Calls Tryz.prog 56 #[.int .i64 n, .int .i64 k] w fun e w' => e = .returned (.int .u64 (vI n k : Nat)) ∧ w' = w := by
  by_cases hin : 0 ≤ n ∧ n ≤ 16 ∧ 0 ≤ k ∧ k ≤ 32
  · by_cases k0 : k = 0
    · subst k0
      rw [vI_one hin.1 hin.2.1]
      obtain ⟨h1, h2, _, _⟩ := hin
      go_enter Tryz.func56, Tryz.ntmps56
      go_wp2
      go_returns
      exact ⟨rfl, rfl⟩
    · obtain ⟨i, rfl⟩ : ∃ i : Nat, n = i := ⟨n.toNat, by omega⟩
      obtain ⟨j, rfl⟩ : ∃ j : Nat, k = (j : Int) + 1 := ⟨(k - 1).toNat, by omega⟩
      have h := rv_in w i j (by omega) (by omega)
      rw [rsm_is (by omega) (by omega)] at h
      have e : vI (i : Int) ((j : Int) + 1) = vv i (j + 1) := if_pos hin
      rw [e]
      exact h
  · rw [vI_out hin]
    by_cases h0 : n < 0
    · go_enter Tryz.func56, Tryz.ntmps56
      go_wp2
      go_returns
      exact ⟨rfl, rfl⟩
    · by_cases h1 : 16 < n
      · go_enter Tryz.func56, Tryz.ntmps56
        go_wp2
        go_returns
        exact ⟨rfl, rfl⟩
      · by_cases h2 : k < 0
        · go_enter Tryz.func56, Tryz.ntmps56
          go_wp2
          go_returns
          exact ⟨rfl, rfl⟩
        · have h3 : 32 < k := by omega
          go_enter Tryz.func56, Tryz.ntmps56
          go_wp2
          go_returns
          exact ⟨rfl, rfl⟩
end Go.Proofs.YtfgpmdikkncckaaGreatDoor
namespace Go.Proofs.YtfgpmdikkncckaaGreatDoor
set_option linter.unusedVariables false
open Go.ChangeShapes Go.WideShapes Go.ChangeAt Go.RowKit

theorem v_calls (w : World) (b : Nat) (mo : Option Nat) (S : Int → Int → Bool) (n k : Int) (h : Hid (BkAt w b mo S)) (hO : Hid (Ok S)) :
    Calls Tryz.prog 138 #[.pointer (some ⟨b, 0, none⟩), .int .i64 n, .int .i64 k] w fun e w' => e = .returned (.int .u64 (vI n k : Nat)) ∧ ∃ mo', BkAt w' b mo' (un S n k) ∧ Gb w w' b mo mo' :=
  v_any _ w b mo S n k (Nat.le_refl _) h hO

/-- A book that was made when there were lo blocks: its map lies behind them. -/
theorem new_calls (w : World) : Calls Tryz.prog 34 #[] w fun e w' => ∃ b, e = .returned (.pointer (some ⟨b, 0, none⟩)) ∧ BkAt w' b none noS ∧ Below w.heap.size w w' ∧ w.heap.size ≤ b := by
  refine (new_any w).mono ?_
  rintro e w' ⟨rfl, h1, h2⟩
  exact ⟨_, rfl, h1, h2, Nat.le_refl _⟩
theorem below_book {w w1 w2 : World} {b : Nat} {mo : Option Nat} (h : Below w.heap.size w w1) (hb : w.heap.size ≤ b) (hG : Gb w1 w2 b none mo) : Below w.heap.size w w2 :=
  h.trans (hG.below hb h.size (fun m e => by cases e))

theorem grows_math {x y : Nat} (hx : x < 14) (hy : y < 31) : ∃ v v1 v2 v3 : Nat, vI (2 + (x : Int)) (1 + (y : Int)) = v ∧ vI (2 + (x : Int)) (1 + (y : Int) + 1) = v1 ∧ vI (2 + (x : Int) + 1) (1 + (y : Int)) = v2 ∧ vI (2 + (x : Int) + 1) (1 + (y : Int) + 1) = v3 ∧
    v < v1 ∧ v < v2 ∧ v3 = v1 + v2 + v ∧ v % 2 = 0 ∧ v1 ≤ 2460955893981184 ∧ v2 ≤ 2460955893981184 := by
  have e1 : vI (2 + (x : Int)) (1 + (y : Int)) = vv (x + 2) (y + 1) := by unfold vI; rw [if_pos (by omega)]; congr 1 <;> omega
  have e2 : vI (2 + (x : Int)) (1 + (y : Int) + 1) = vv (x + 2) (y + 2) := by unfold vI; rw [if_pos (by omega)]; congr 1 <;> omega
  have e3 : vI (2 + (x : Int) + 1) (1 + (y : Int)) = vv (x + 3) (y + 1) := by unfold vI; rw [if_pos (by omega)]; congr 1 <;> omega
  have e4 : vI (2 + (x : Int) + 1) (1 + (y : Int) + 1) = vv (x + 3) (y + 2) := by unfold vI; rw [if_pos (by omega)]; congr 1 <;> omega
  have h := vv_more hx hy
  exact ⟨_, _, _, _, e1, e2, e3, e4, h.1, h.2.1, vv_sum (n := x + 2) (k := y + 1) (by omega) (by omega), h.2.2, vv_bd (by omega) (by omega), vv_bd (by omega) (by omega)⟩
end Go.Proofs.YtfgpmdikkncckaaGreatDoor
