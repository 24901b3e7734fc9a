/-
  How many vectors there are, of up to 16 numbers with up to 32 pulses, as a table; that it keeps to the sum of three, to the document's own sum of products, and to the number of lists. No condition; no program.
-/
import Derived.KernelRfl
namespace Go.Proofs.YtfgpmdikkncckaaDoor
set_option linter.unusedVariables false

def vT : List (List Nat) := [
  [1, 0, 0, 0, 0, 0, 0, 0, 0, 0, 0, 0, 0, 0, 0, 0, 0, 0, 0, 0, 0, 0, 0, 0, 0, 0, 0, 0, 0, 0, 0, 0, 0],
  [1, 2, 2, 2, 2, 2, 2, 2, 2, 2, 2, 2, 2, 2, 2, 2, 2, 2, 2, 2, 2, 2, 2, 2, 2, 2, 2, 2, 2, 2, 2, 2, 2],
  [1, 4, 8, 12, 16, 20, 24, 28, 32, 36, 40, 44, 48, 52, 56, 60, 64, 68, 72, 76, 80, 84, 88, 92, 96, 100, 104, 108, 112, 116, 120, 124, 128],
  [1, 6, 18, 38, 66, 102, 146, 198, 258, 326, 402, 486, 578, 678, 786, 902, 1026, 1158, 1298, 1446, 1602, 1766, 1938, 2118, 2306, 2502, 2706, 2918, 3138, 3366, 3602, 3846, 4098],
  [1, 8, 32, 88, 192, 360, 608, 952, 1408, 1992, 2720, 3608, 4672, 5928, 7392, 9080, 11008, 13192, 15648, 18392, 21440, 24808, 28512, 32568, 36992, 41800, 47008, 52632, 58688, 65192, 72160, 79608, 87552],
  [1, 10, 50, 170, 450, 1002, 1970, 3530, 5890, 9290, 14002, 20330, 28610, 39210, 52530, 69002, 89090, 113290, 142130, 176170, 216002, 262250, 315570, 376650, 446210, 525002, 613810, 713450, 824770, 948650, 1086002, 1237770, 1404930],
  [1, 12, 72, 292, 912, 2364, 5336, 10836, 20256, 35436, 58728, 93060, 142000, 209820, 301560, 423092, 581184, 783564, 1038984, 1357284, 1749456, 2227708, 2805528, 3497748, 4320608, 5291820, 6430632, 7757892, 9296112, 11069532, 13104184, 15427956, 18070656],
  [1, 14, 98, 462, 1666, 4942, 12642, 28814, 59906, 115598, 209762, 361550, 596610, 948430, 1459810, 2184462, 3188738, 4553486, 6376034, 8772302, 11879042, 15856206, 20889442, 27192718, 35011074, 44623502, 56345954, 70534478, 87588482, 107954126, 132127842, 160659982, 194158594],
  [1, 16, 128, 688, 2816, 9424, 27008, 68464, 157184, 332688, 658048, 1229360, 2187520, 3732560, 6140800, 9785072, 15158272, 22900496, 33830016, 48978352, 69629696, 97364944, 134110592, 182192752, 244396544, 324031120, 425000576, 551881008, 710003968, 905546576, 1145628544, 1438416368, 1793234944],
  [1, 18, 162, 978, 4482, 16722, 53154, 148626, 374274, 864146, 1854882, 3742290, 7159170, 13079250, 22952610, 38878482, 63821826, 101880594, 158611106, 241419474, 360027522, 527022162, 758497698, 1074801042, 1501390338, 2069818002, 2818849698, 3795731282, 5057616258, 6673166802, 8724341922, 11308386834, 14540038146],
  [1, 20, 200, 1340, 6800, 28004, 97880, 299660, 822560, 2060980, 4780008, 10377180, 21278640, 41517060, 77548920, 139380012, 242080320, 407782740, 668274440, 1068305020, 1669752016, 2556801700, 3842321560, 5675620300, 8251811680, 11823020020, 16711687720, 23326268700, 32179616240, 43910399300, 59307908024, 79340636780, 105189061760],
  [1, 22, 242, 1782, 9922, 44726, 170610, 568150, 1690370, 4573910, 11414898, 26572086, 58227906, 121023606, 240089586, 457018518, 838478850, 1488341910, 2564399090, 4300978550, 7039035586, 11265589302, 17664712562, 27182654422, 41110086402, 61184918102, 89719625842, 129757582262, 185263467202, 261353482742, 364571790066, 503220334870, 687750033410],
  [1, 24, 288, 2312, 14016, 68664, 284000, 1022760, 3281280, 9545560, 25534368, 63521352, 148321344, 327572856, 688686048, 1385794152, 2681291520, 5008112280, 9060853280, 15926230920, 27266245056, 45570869944, 74501171808, 119348538792, 187641279616, 289936284120, 440840828064, 660318036168, 975339085632, 1421956035576, 2047881308384, 2915673433320, 4106643801600],
  [1, 26, 338, 2938, 19266, 101946, 454610, 1761370, 6065410, 18892250, 53972178, 143027898, 354870594, 830764794, 1847023698, 3921503898, 7988589570, 15677993370, 29746958930, 54734043130, 97926519106, 170763634106, 290835675858, 484685386458, 791675204866, 1269252768602, 2000029880786, 3101188745018, 4736845866818, 7134140988026, 10603978331986, 15567533073690, 22589850308610],
  [1, 28, 392, 3668, 25872, 147084, 703640, 2919620, 10746400, 35704060, 108568488, 305568564, 803467056, 1989102444, 4666890936, 10435418532, 22345512000, 46012094940, 91437047240, 175918049300, 328578611536, 597268764748, 1058868074712, 1834389137028, 3110749728352, 5171677701820, 8440960351208, 13542178977012, 21380213588848, 33251200443692, 50989319763704, 77160831169380, 115318214551680],
  [1, 30, 450, 4510, 34050, 207006, 1057730, 4680990, 18347010, 64797470, 209070018, 623207070, 1732242690, 4524812190, 11180805570, 26283115038, 59064045570, 127421652510, 264870794690, 532225891230, 1036722552066, 1962569928350, 3618706767810, 6511963979550, 11457102844930, 19739530275102, 33352168328130, 55335307656350, 90257700222210, 144889114254750, 229129634462146, 357279785395230, 549758831116290],
  [1, 32, 512, 5472, 44032, 285088, 1549824, 7288544, 30316544, 113461024, 387328512, 1219605600, 3575055360, 9832110240, 25537728000, 63001648608, 148348809216, 334834507296, 727126954496, 1524223640416, 3093172083712, 6092464564128, 11673741260288, 21804412007648, 39773478832128, 70970111952160, 124061810555392, 212749286539872, 358342294418432, 593489108895392, 967507857612288, 1553917277469664, 2460955893981184]]
def vv (n k : Nat) : Nat := (vT.getD n []).getD k 0

/-- A check of two numbers below bounds. -/
def all2 (a b : Nat) (p : Nat → Nat → Bool) : Bool := (List.range a).all fun n => (List.range b).all fun k => p n k
theorem all2_at {a b : Nat} {p : Nat → Nat → Bool} (h : all2 a b p = true) {n k : Nat} (hn : n < a) (hk : k < b) : p n k = true :=
  List.all_eq_true.1 (List.all_eq_true.1 h n (List.mem_range.2 hn)) k (List.mem_range.2 hk)

theorem chk_sum : all2 16 32 (fun n k => Nat.beq (vv (n + 1) (k + 1)) (vv n (k + 1) + vv (n + 1) k + vv n k)) = true := by kernel_rfl
theorem chk_one : all2 17 1 (fun n k => Nat.beq (vv n 0) 1) = true := by kernel_rfl
theorem chk_none : all2 1 32 (fun n k => Nat.beq (vv 0 (k + 1)) 0) = true := by kernel_rfl
theorem chk_bd : all2 17 33 (fun n k => Nat.ble (vv n k) 2460955893981184) = true := by kernel_rfl
theorem vv_sum {n k : Nat} (hn : n < 16) (hk : k < 32) : vv (n + 1) (k + 1) = vv n (k + 1) + vv (n + 1) k + vv n k := Nat.eq_of_beq_eq_true (all2_at chk_sum hn hk)
theorem vv_one {n : Nat} (hn : n ≤ 16) : vv n 0 = 1 := Nat.eq_of_beq_eq_true (all2_at chk_one (by omega) (k := 0) (by omega))
theorem vv_none {k : Nat} (hk : k < 32) : vv 0 (k + 1) = 0 := Nat.eq_of_beq_eq_true (all2_at chk_none (n := 0) (by omega) hk)
theorem vv_bd {n k : Nat} (hn : n ≤ 16) (hk : k ≤ 32) : vv n k ≤ 2460955893981184 := Nat.le_of_ble_eq_true (all2_at chk_bd (by omega) (by omega))

/-- In how many ways i are chosen of n, step by step. -/
def chL (n : Nat) : Nat → Nat
  | 0 => 1
  | i + 1 => chL n i * (n - i) / (i + 1)
def ch (n k : Nat) : Nat := if k ≤ n then chL n k else 0
/-- The document's sum, up to j numbers that aren't 0. -/
def rsm (n k : Nat) : Nat → Nat
  | 0 => 0
  | j + 1 => rsm n k j + 2 ^ (j + 1) * ch n (j + 1) * ch (k - 1) j
theorem chk_ch : all2 32 33 (fun n i => Nat.ble (chL n i) 300540195) = true := by kernel_rfl
theorem chk_ch16 : all2 17 18 (fun n i => Nat.ble (ch n i) 12870) = true := by kernel_rfl
theorem chk_ref : all2 17 32 (fun n k => Nat.beq (rsm n (k + 1) n) (vv n (k + 1))) = true := by kernel_rfl
theorem chL_bd {n i : Nat} (hn : n ≤ 31) (hi : i ≤ 32) : chL n i ≤ 300540195 := Nat.le_of_ble_eq_true (all2_at chk_ch (by omega) (by omega))
theorem ch_bd {n i : Nat} (hn : n ≤ 31) (hi : i ≤ 32) : ch n i ≤ 300540195 := by unfold ch; split; exact chL_bd hn hi; omega
theorem ch_bd16 {n i : Nat} (hn : n ≤ 16) (hi : i ≤ 17) : ch n i ≤ 12870 := Nat.le_of_ble_eq_true (all2_at chk_ch16 (by omega) (by omega))
theorem rsm_is {n k : Nat} (hn : n ≤ 16) (hk : k < 32) : rsm n (k + 1) n = vv n (k + 1) := Nat.eq_of_beq_eq_true (all2_at chk_ref (by omega) hk)

theorem chk_more : all2 14 31 (fun n k => Nat.blt (vv (n + 2) (k + 1)) (vv (n + 2) (k + 2)) && Nat.blt (vv (n + 2) (k + 1)) (vv (n + 3) (k + 1)) && Nat.beq (vv (n + 2) (k + 1) % 2) 0) = true := by kernel_rfl
theorem vv_more {n k : Nat} (hn : n < 14) (hk : k < 31) : vv (n + 2) (k + 1) < vv (n + 2) (k + 2) ∧ vv (n + 2) (k + 1) < vv (n + 3) (k + 1) ∧ vv (n + 2) (k + 1) % 2 = 0 := by
  have h := all2_at chk_more hn hk
  simp only [Bool.and_eq_true] at h
  exact ⟨Nat.le_of_ble_eq_true h.1.1, Nat.le_of_ble_eq_true h.1.2, Nat.eq_of_beq_eq_true h.2⟩

/-- All vectors of n numbers with k pulses, in order: by the magnitude of the first number, the one without a sign first. -/
def allL : Nat → Nat → List (List Int)
  | 0, k => if k = 0 then [[]] else []
  | n + 1, k => (List.range (k + 1)).flatMap fun m => (allL n (k - m)).map (fun r => (m : Int) :: r) ++ (if m = 0 then [] else (allL n (k - m)).map (fun r => -(m : Int) :: r))
theorem chk_lists : all2 5 6 (fun n k => Nat.beq (allL n k).length (vv n k)) = true := by kernel_rfl
theorem lists_is {n k : Nat} (hn : n < 5) (hk : k < 6) : (allL n k).length = vv n k := Nat.eq_of_beq_eq_true (all2_at chk_lists hn hk)

/-- How many vectors there are, of any numbers: none outside. -/
def vI (n k : Int) : Nat := if 0 ≤ n ∧ n ≤ 16 ∧ 0 ≤ k ∧ k ≤ 32 then vv n.toNat k.toNat else 0
theorem vI_bd (n k : Int) : vI n k ≤ 2460955893981184 := by unfold vI; split; exact vv_bd (by omega) (by omega); omega
theorem vI_out {n k : Int} (h : ¬ (0 ≤ n ∧ n ≤ 16 ∧ 0 ≤ k ∧ k ≤ 32)) : vI n k = 0 := if_neg h
theorem vI_one {n : Int} (h0 : 0 ≤ n) (h1 : n ≤ 16) : vI n 0 = 1 := by unfold vI; rw [if_pos ⟨h0, h1, by omega, by omega⟩]; exact vv_one (by omega)
theorem vI_none {k : Int} (h0 : 0 < k) : vI 0 k = 0 := by
  unfold vI
  split
  · obtain ⟨j, rfl⟩ : ∃ j : Nat, k = j + 1 := ⟨(k - 1).toNat, by omega⟩
    exact vv_none (by omega)
  · rfl
theorem vI_sum {n k : Int} (h1 : 1 ≤ n) (h2 : n ≤ 16) (h3 : 1 ≤ k) (h4 : k ≤ 32) : vI n k = vI (n - 1) k + vI n (k - 1) + vI (n - 1) (k - 1) := by
  obtain ⟨i, rfl⟩ : ∃ i : Nat, n = i + 1 := ⟨(n - 1).toNat, by omega⟩
  obtain ⟨j, rfl⟩ : ∃ j : Nat, k = j + 1 := ⟨(k - 1).toNat, by omega⟩
  have h := vv_sum (n := i) (k := j) (by omega) (by omega)
  have e1 : (i : Int) + 1 - 1 = i := by omega
  have e2 : (j : Int) + 1 - 1 = j := by omega
  unfold vI
  rw [e1, e2, if_pos (by omega), if_pos (by omega), if_pos (by omega), if_pos (by omega)]
  exact h

/-- What is noted: a set of pairs. -/
def bx (n k i j : Int) : Bool := decide (n ≤ 16 ∧ k ≤ 32 ∧ 1 ≤ i ∧ i ≤ n ∧ 1 ≤ j ∧ j ≤ k)
def un (S : Int → Int → Bool) (n k : Int) (i j : Int) : Bool := S i j || bx n k i j
def put1 (S : Int → Int → Bool) (n k : Int) (i j : Int) : Bool := S i j || decide (i = n ∧ j = k)
def noS (_ _ : Int) : Bool := false
def Ok (S : Int → Int → Bool) : Prop := ∀ i j, S i j = true → (1 ≤ i ∧ i ≤ 16 ∧ 1 ≤ j ∧ j ≤ 32) ∧ ∀ i' j', 1 ≤ i' → i' ≤ i → 1 ≤ j' → j' ≤ j → S i' j' = true
theorem bx_true {n k i j : Int} : bx n k i j = true ↔ (n ≤ 16 ∧ k ≤ 32 ∧ 1 ≤ i ∧ i ≤ n ∧ 1 ≤ j ∧ j ≤ k) := decide_eq_true_iff
theorem un_true {S : Int → Int → Bool} {n k i j : Int} : un S n k i j = true ↔ (S i j = true ∨ bx n k i j = true) := by unfold un; exact Bool.or_eq_true _ _ |>.to_iff
theorem Ok.no : Ok noS := fun i j h => by cases h
theorem Ok.un {S : Int → Int → Bool} (h : Ok S) (n k : Int) : Ok (un S n k) := by
  intro i j hij
  rcases un_true.1 hij with h1 | h1
  · obtain ⟨a, b⟩ := h i j h1
    exact ⟨a, fun i' j' c1 c2 c3 c4 => un_true.2 (.inl (b i' j' c1 c2 c3 c4))⟩
  · rw [bx_true] at h1
    exact ⟨by omega, fun i' j' c1 c2 c3 c4 => un_true.2 (.inr (bx_true.2 (by omega)))⟩
theorem un_ext {S T : Int → Int → Bool} (h : ∀ i j, S i j = true ↔ T i j = true) : S = T := by
  funext i j
  rw [Bool.eq_iff_iff]
  exact h i j
theorem un_have {S : Int → Int → Bool} (h : Ok S) {n k : Int} (hs : S n k = true) : un S n k = S := by
  apply un_ext
  intro i j
  rw [un_true, bx_true]
  constructor
  · rintro (h1 | h1)
    · exact h1
    · exact (h n k hs).2 i j (by omega) (by omega) (by omega) (by omega)
  · exact .inl
theorem un_out {S : Int → Int → Bool} {n k : Int} (h : ¬ (1 ≤ n ∧ n ≤ 16 ∧ 1 ≤ k ∧ k ≤ 32)) : un S n k = S := by
  apply un_ext
  intro i j
  rw [un_true, bx_true]
  constructor
  · rintro (h1 | h1)
    · exact h1
    · omega
  · exact .inl
theorem un_step {S : Int → Int → Bool} {n k : Int} (h : 1 ≤ n ∧ n ≤ 16 ∧ 1 ≤ k ∧ k ≤ 32) : put1 (un (un (un S (n - 1) k) n (k - 1)) (n - 1) (k - 1)) n k = un S n k := by
  apply un_ext
  intro i j
  unfold put1
  rw [Bool.or_eq_true, un_true, un_true, un_true, un_true, bx_true, bx_true, bx_true, bx_true, decide_eq_true_iff]
  constructor
  · rintro ((((h1 | h1) | h1) | h1) | h1)
    · exact .inl h1
    · right; omega
    · right; omega
    · right; omega
    · right; omega
  · rintro (h1 | h1)
    · exact .inl (.inl (.inl (.inl h1)))
    · by_cases e1 : i ≤ n - 1
      · exact .inl (.inl (.inl (.inr (by omega))))
      · by_cases e2 : j ≤ k - 1
        · exact .inl (.inl (.inr (by omega)))
        · right; omega
theorem un_new {S : Int → Int → Bool} (h : Ok S) {n k : Int} (hs : S n k = false) (hn : 1 ≤ n ∧ 1 ≤ k) : un (un (un S (n - 1) k) n (k - 1)) (n - 1) (k - 1) n k = false := by
  rw [Bool.eq_false_iff]
  intro e
  rw [un_true, un_true, un_true, bx_true, bx_true, bx_true, hs] at e
  rcases e with ((e | e) | e) | e
  · cases e
  · omega
  · omega
  · omega

/-- How many pairs are noted, at most. -/
def card (S : Int → Int → Bool) : Nat := (List.range 512).countP fun q => S ((q / 32 : Nat) + 1) ((q % 32 : Nat) + 1)
theorem card_le (S : Int → Int → Bool) : card S ≤ 512 := by
  have := List.countP_le_length (l := List.range 512) (p := fun q => S ((q / 32 : Nat) + 1) ((q % 32 : Nat) + 1))
  rw [List.length_range] at this
  exact this
theorem countP_more {p p' : Nat → Bool} (hp : ∀ q, p q = true → p' q = true) {q0 : Nat} (h0 : p q0 = false) (h1 : p' q0 = true) : ∀ l : List Nat, q0 ∈ l → l.countP p + 1 ≤ l.countP p'
  | [], h => by cases h
  | a :: l, h => by
    rw [List.countP_cons, List.countP_cons]
    have hm : l.countP p ≤ l.countP p' := List.countP_mono_left (fun x _ hx => hp x hx)
    by_cases e : a = q0
    · subst e
      rw [h0, h1]
      simp
      omega
    · have ih := countP_more hp h0 h1 l (by rcases List.mem_cons.1 h with h2 | h2; exact absurd h2.symm e; exact h2)
      by_cases ha : p a = true
      · rw [ha, hp a ha]; simp; omega
      · rw [Bool.eq_false_iff.2 ha]
        simp
        omega
theorem card_put {S : Int → Int → Bool} {n k : Int} (h : 1 ≤ n ∧ n ≤ 16 ∧ 1 ≤ k ∧ k ≤ 32) (hs : S n k = false) : card S + 1 ≤ card (put1 S n k) := by
  have e1 : ((((n - 1).toNat * 32 + (k - 1).toNat) / 32 : Nat) : Int) + 1 = n := by omega
  have e2 : ((((n - 1).toNat * 32 + (k - 1).toNat) % 32 : Nat) : Int) + 1 = k := by omega
  refine countP_more (q0 := (n - 1).toNat * 32 + (k - 1).toNat) (fun q hq => ?_) ?_ ?_ _ (List.mem_range.2 (by omega))
  · unfold put1; rw [hq]; rfl
  · rw [e1, e2]; exact hs
  · rw [e1, e2]; unfold put1; simp
theorem card_no : card noS = 0 := by
  unfold card
  rw [List.countP_eq_zero]
  intro a _
  simp [noS]
end Go.Proofs.YtfgpmdikkncckaaDoor
