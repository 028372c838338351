/-
  Contracts of the package fold and of the document's answer: Start, Join, Map, Test on numbers.
-/
import Derived.Test.YtonaclpebakemaaFoldMath
import Derived.Test.YtonaclpebakemaaRowOf
import Derived.Laws.BitsAllLaws
import Derived.WalkLawsBesides
import Derived.IntWalk
import Derived.Test.YtonaclpebakemaaChecked
namespace Go.Proofs.Ytonaclpebakemaa.Fold
open Go Go.RowKit Go.Proofs.Ytonaclpebakemaa.Law

theorem u32_wrap (n : Nat) : IntKind.u32.wrap (n : Int) = ((n % 4294967296 : Nat) : Int) := by rw [IntKind.wrap_u32']; omega
theorem which (x : Int) : (x < 0 ∨ 6 < x) ∨ x = 0 ∨ x = 1 ∨ x = 2 ∨ x = 3 ∨ x = 4 ∨ x = 5 ∨ x = 6 := by omega
theorem ret_u32 {a b : Int} (h : a = b) : Ending.returned (.int .u32 a) = .returned (.int .u32 b) := by rw [h]
abbrev RetU (n : Nat) (w : World) (e : Ending) (w' : World) : Prop := e = .returned (.int .u32 (n : Nat)) ∧ w = w'
abbrev RetBo (b : Bool) (w : World) (e : Ending) (w' : World) : Prop := e = .returned (.bool b) ∧ w = w'

set_option maxHeartbeats 400000 in
theorem isFold_calls (x : Int) (w : World) : Calls Try.prog 18 #[.int .i64 x] w (RetBo (isF x) w) := by
  unfold isF
  by_cases h : 0 ≤ x ∧ x < 7
  · rw [decide_eq_true h]
    obtain ⟨h1, h2⟩ := h
    go_enter Try.func18, Try.ntmps18
    go_wp2_with fail
    go_ret
    exact ⟨rfl, rfl⟩
  · rw [show decide (0 ≤ x ∧ x < 7) = false from decide_eq_false h]
    rcases (by omega : x < 0 ∨ 7 ≤ x) with h1 | h1
    · clear h
      go_enter Try.func18, Try.ntmps18
      go_wp2_with fail
      go_ret
      exact ⟨rfl, rfl⟩
    · have h0 : 0 ≤ x := by omega
      have hd : decide (x < 7) = false := by simpa using h1
      clear h
      go_enter Try.func18, Try.ntmps18
      go_wp2_with fail
      go_ret
      exact ⟨rfl, rfl⟩

set_option maxHeartbeats 400000 in
theorem start_calls (x : Int) (v : Nat) (w : World) : Calls Try.prog 8 #[.int .i64 x, .int .u32 (v : Nat)] w (RetU (stN x v) w) := by
  unfold stN
  by_cases h : x < 0 ∨ 6 < x
  · rw [if_pos h]
    have hF := isFold_calls x w
    have h1 : isF x = false := decide_eq_false (by omega)
    rw [h1] at hF
    have HF := Lib.hid hF
    clear hF h1 h
    go_enter Try.func8, Try.ntmps8
    go_wp2_with fail
    refine HF.out.mono ?_
    rintro e w' ⟨rfl, rfl⟩
    go_wp2_with fail
    go_ret
    exact ⟨rfl, rfl⟩
  · rw [if_neg h]
    have hF := isFold_calls x w
    have h1 : isF x = true := decide_eq_true (by omega)
    rw [h1] at hF
    have HF := Lib.hid hF
    clear hF h1 h
    by_cases h2 : x = 1
    · subst h2
      rw [if_pos rfl]
      go_enter Try.func8, Try.ntmps8
      go_wp2_with fail
      refine HF.out.mono ?_
      rintro e w' ⟨rfl, rfl⟩
      go_wp2_with fail
      go_ret
      exact ⟨rfl, rfl⟩
    · rw [if_neg h2]
      have h3 : (x == 1) = false := by simpa using h2
      clear h2
      go_enter Try.func8, Try.ntmps8
      go_wp2_with fail
      refine HF.out.mono ?_
      rintro e w' ⟨rfl, rfl⟩
      go_wp2_with fail
      go_ret
      exact ⟨rfl, rfl⟩

set_option maxHeartbeats 400000 in
theorem refStart_calls (x : Int) (v : Nat) (w : World) : Calls Try.prog 9 #[.int .i64 x, .int .u32 (v : Nat)] w (RetU (stN x v) w) := by
  unfold stN
  by_cases h : x < 0 ∨ 6 < x
  · rw [if_pos h]
    rcases h with h1 | h1
    · go_enter Try.func9, Try.ntmps9
      go_wp2_with fail
      go_ret
      exact ⟨rfl, rfl⟩
    · have h0 : 0 ≤ x := by omega
      go_enter Try.func9, Try.ntmps9
      go_wp2_with fail
      go_ret
      exact ⟨rfl, rfl⟩
  · rw [if_neg h]
    have h0 : 0 ≤ x := by omega
    have h1 : x ≤ 6 := by omega
    clear h
    by_cases h2 : x = 1
    · subst h2
      rw [if_pos rfl]
      go_enter Try.func9, Try.ntmps9
      go_wp2_with fail
      go_ret
      exact ⟨rfl, rfl⟩
    · rw [if_neg h2]
      have h3 : (x == 1) = false := by simpa using h2
      clear h2
      go_enter Try.func9, Try.ntmps9
      go_wp2_with fail
      go_ret
      exact ⟨rfl, rfl⟩

set_option maxHeartbeats 1000000 in
theorem join_calls (x : Int) (a b : Nat) (ha : a < 4294967296) (hb : b < 4294967296) (w : World) : Calls Try.prog 10 #[.int .i64 x, .int .u32 (a : Nat), .int .u32 (b : Nat)] w (RetU (jnN x a b) w) := by
  have hadd := Lib.hid (u32_wrap (a + b))
  rcases which x with h | rfl | rfl | rfl | rfl | rfl | rfl | rfl
  · have e : jnN x a b = 0 := by
      unfold jnN
      rw [if_neg (by omega), if_neg (by omega), if_neg (by omega), if_neg (by omega), if_neg (by omega), if_neg (by omega)]
    rw [e]
    have g0 : (x == 0) = false := by rw [beq_eq_false_iff_ne]; omega
    have g1 : (x == 1) = false := by rw [beq_eq_false_iff_ne]; omega
    have g2 : (x == 2) = false := by rw [beq_eq_false_iff_ne]; omega
    have g3 : (x == 3) = false := by rw [beq_eq_false_iff_ne]; omega
    have g4 : (x == 4) = false := by rw [beq_eq_false_iff_ne]; omega
    have g5 : (x == 5) = false := by rw [beq_eq_false_iff_ne]; omega
    have g6 : (x == 6) = false := by rw [beq_eq_false_iff_ne]; omega
    clear h e
    go_enter Try.func10, Try.ntmps10
    go_wp2_with fail
    go_ret
    exact ⟨rfl, rfl⟩
  · go_enter Try.func10, Try.ntmps10
    go_wp2_with fail
    go_ret
    exact ⟨ret_u32 hadd.out, rfl⟩
  · go_enter Try.func10, Try.ntmps10
    go_wp2_with fail
    go_ret
    exact ⟨ret_u32 hadd.out, rfl⟩
  · go_enter Try.func10, Try.ntmps10
    go_wp2_with fail
    all_goals
      go_ret
      exact ⟨ret_u32 (by show _ = ((max a b : Nat) : Int); omega), rfl⟩
  · go_enter Try.func10, Try.ntmps10
    go_wp2_with fail
    all_goals
      go_ret
      exact ⟨ret_u32 (by show _ = ((min a b : Nat) : Int); omega), rfl⟩
  · have hx := u32_xor_nat a b ha hb
    go_enter Try.func10, Try.ntmps10
    go_wp2_with fail
    go_ret
    exact ⟨rfl, rfl⟩
  · have hx := u32_and_nat a b ha hb
    go_enter Try.func10, Try.ntmps10
    go_wp2_with fail
    go_ret
    exact ⟨rfl, rfl⟩
  · have hx := u32_or_nat a b ha hb
    go_enter Try.func10, Try.ntmps10
    go_wp2_with fail
    go_ret
    exact ⟨rfl, rfl⟩

theorem u32_shr (v n : Nat) : (v : Int) / ((2 ^ n : Nat) : Int) = ((v / 2 ^ n : Nat) : Int) := by omega

set_option maxHeartbeats 1000000 in
theorem map_calls (x : Int) (n v : Nat) (hn : n < 4294967296) (hv : v < 4294967296) (w : World) : Calls Try.prog 12 #[.int .i64 x, .int .u32 (n : Nat), .int .u32 (v : Nat)] w (RetU (mpN x n v) w) := by
  have hadd := Lib.hid (u32_wrap (v + n))
  have hmul := Lib.hid (u32_wrap (v * n))
  have hsq := Lib.hid (u32_wrap (v * v))
  have hsq2 := Lib.hid (u32_wrap (v * v % 4294967296 + n))
  rcases which x with h | rfl | rfl | rfl | rfl | rfl | rfl | rfl
  · have e : mpN x n v = 0 := by
      unfold mpN
      rw [if_neg (by omega), if_neg (by omega), if_neg (by omega), if_neg (by omega), if_neg (by omega), if_neg (by omega)]
    rw [e]
    have g0 : (x == 0) = false := by rw [beq_eq_false_iff_ne]; omega
    have g1 : (x == 1) = false := by rw [beq_eq_false_iff_ne]; omega
    have g2 : (x == 2) = false := by rw [beq_eq_false_iff_ne]; omega
    have g3 : (x == 3) = false := by rw [beq_eq_false_iff_ne]; omega
    have g4 : (x == 4) = false := by rw [beq_eq_false_iff_ne]; omega
    have g5 : (x == 5) = false := by rw [beq_eq_false_iff_ne]; omega
    clear h e
    go_enter Try.func12, Try.ntmps12
    go_wp2_with fail
    go_ret
    exact ⟨rfl, rfl⟩
  · go_enter Try.func12, Try.ntmps12
    go_wp2_with fail
    go_ret
    exact ⟨ret_u32 hadd.out, rfl⟩
  · go_enter Try.func12, Try.ntmps12
    go_wp2_with fail
    go_ret
    exact ⟨ret_u32 (by rw [← Int.natCast_mul]; exact hmul.out), rfl⟩
  · have hx := u32_xor_nat v n hv hn
    go_enter Try.func12, Try.ntmps12
    go_wp2_with fail
    go_ret
    exact ⟨rfl, rfl⟩
  · have hk : n % 32 < 32 := by omega
    have hm : (n : Int) % 32 = ((n % 32 : Nat) : Int) := by omega
    have hs := u32_shr v (n % 32)
    obtain ⟨k, hk'⟩ : ∃ k, n % 32 = k := ⟨_, rfl⟩
    rw [hk'] at hk hm hs
    go_enter Try.func12, Try.ntmps12
    go_wp2_with fail
    go_ret
    exact ⟨ret_u32 (by show (v : Int) / 2 ^ k = ((v / 2 ^ (n % 32) : Nat) : Int); rw [hk', ← hs]; simp), rfl⟩
  · go_enter Try.func12, Try.ntmps12
    go_wp2_with fail
    go_ret
    exact ⟨rfl, rfl⟩
  · go_enter Try.func12, Try.ntmps12
    go_wp2_with fail
    go_ret
    exact ⟨ret_u32 (by rw [← Int.natCast_mul]; show _ = (((v * v + n) % 4294967296 : Nat) : Int); omega), rfl⟩
  · go_enter Try.func12, Try.ntmps12
    go_wp2_with fail
    go_ret
    exact ⟨rfl, rfl⟩

set_option maxHeartbeats 1000000 in
theorem test_calls (x : Int) (n v : Nat) (hn : n < 4294967296) (hv : v < 4294967296) (w : World) : Calls Try.prog 14 #[.int .i64 x, .int .u32 (n : Nat), .int .u32 (v : Nat)] w (RetBo (tsN x n v) w) := by
  rcases which x with h | rfl | rfl | rfl | rfl | rfl | rfl | rfl
  · have e : tsN x n v = false := by
      unfold tsN
      rw [if_neg (by omega), if_neg (by omega), if_neg (by omega), if_neg (by omega)]
    rw [e]
    have g0 : (x == 0) = false := by rw [beq_eq_false_iff_ne]; omega
    have g1 : (x == 1) = false := by rw [beq_eq_false_iff_ne]; omega
    have g2 : (x == 2) = false := by rw [beq_eq_false_iff_ne]; omega
    have g3 : (x == 3) = false := by rw [beq_eq_false_iff_ne]; omega
    clear h e
    go_enter Try.func14, Try.ntmps14
    go_wp2_with fail
    go_ret
    exact ⟨rfl, rfl⟩
  · by_cases h : v < n
    · rw [show tsN 0 n v = true from decide_eq_true h]
      go_enter Try.func14, Try.ntmps14
      go_wp2_with fail
      go_ret
      exact ⟨rfl, rfl⟩
    · rw [show tsN 0 n v = false from decide_eq_false h]
      have h' : n ≤ v := by omega
      go_enter Try.func14, Try.ntmps14
      go_wp2_with fail
      go_ret
      exact ⟨rfl, rfl⟩
  · by_cases h : n ≤ v
    · rw [show tsN 1 n v = true from decide_eq_true h]
      go_enter Try.func14, Try.ntmps14
      go_wp2_with fail
      go_ret
      exact ⟨rfl, rfl⟩
    · rw [show tsN 1 n v = false from decide_eq_false h]
      have h' : v < n := by omega
      go_enter Try.func14, Try.ntmps14
      go_wp2_with fail
      go_ret
      exact ⟨rfl, rfl⟩
  · have hx := u32_and_nat v n hv hn
    have he : tsN 2 n v = decide (v &&& n ≠ 0) := rfl
    rw [he]
    obtain ⟨z, hz⟩ : ∃ z, v &&& n = z := ⟨_, rfl⟩
    rw [hz] at hx ⊢
    clear hz he
    by_cases h : z = 0
    · subst h
      go_enter Try.func14, Try.ntmps14
      go_wp2_with fail
      go_ret
      exact ⟨rfl, rfl⟩
    · rw [decide_eq_true h]
      have h' : ((z : Int) != 0) = true := by rw [bne_iff_ne]; omega
      clear h
      go_enter Try.func14, Try.ntmps14
      go_wp2_with fail
      go_ret
      exact ⟨rfl, rfl⟩
  · have he : tsN 3 n v = decide (n ≠ 0 ∧ v % n = 0) := rfl
    rw [he]
    by_cases h : n = 0
    · subst h
      go_enter Try.func14, Try.ntmps14
      go_wp2_with fail
      go_ret
      exact ⟨rfl, rfl⟩
    · have h' : ((n : Int) != 0) = true := by rw [bne_iff_ne]; omega
      have h1 : 1 ≤ n := by omega
      have hm : (v : Int) % (n : Int) = ((v % n : Nat) : Int) := by omega
      obtain ⟨z, hz⟩ : ∃ z, v % n = z := ⟨_, rfl⟩
      rw [hz] at hm ⊢
      clear hz he
      by_cases h2 : z = 0
      · rw [decide_eq_true ⟨h, h2⟩]
        subst h2
        clear h
        go_enter Try.func14, Try.ntmps14
        go_wp2_with fail
        go_ret
        exact ⟨rfl, rfl⟩
      · rw [decide_eq_false (fun h => h2 h.2)]
        have h3 : ((z : Int) == 0) = false := by rw [beq_eq_false_iff_ne]; omega
        clear h h2
        go_enter Try.func14, Try.ntmps14
        go_wp2_with fail
        go_ret
        exact ⟨rfl, rfl⟩
  · go_enter Try.func14, Try.ntmps14
    go_wp2_with fail
    go_ret
    exact ⟨rfl, rfl⟩
  · go_enter Try.func14, Try.ntmps14
    go_wp2_with fail
    go_ret
    exact ⟨rfl, rfl⟩
  · go_enter Try.func14, Try.ntmps14
    go_wp2_with fail
    go_ret
    exact ⟨rfl, rfl⟩

set_option maxRecDepth 100000 in
set_option maxHeartbeats 4000000 in
/-- The document's reckoning bit by bit. -/
theorem bits_calls (one two : Bool) (a b : Nat) (ha : a < 4294967296) (hb : b < 4294967296) (w : World) : Calls Try.prog 19 #[.int .u32 (a : Nat), .int .u32 (b : Nat), .bool one, .bool two] w (RetU (bitsN one two a b 32) w) := by
  go_enter Try.func19, Try.ntmps19
  go_wp2
  go_loop [0, 1, 9, 10, 11] (fun x y r p i => ∃ k P A B R : Nat, k ≤ 32 ∧ i = .int .i64 k ∧ x = .int .u32 (A : Nat) ∧ y = .int .u32 (B : Nat) ∧ r = .int .u32 (R : Nat) ∧ p = .int .u32 (P : Nat) ∧ A = a / 2 ^ k ∧ B = b / 2 ^ k ∧ R = bitsN one two a b k ∧ (k < 32 → P = 2 ^ k)) (fun _ _ _ _ i => 32 - (intOf i).toNat)
  case atStart => exact ⟨0, 1, a, b, 0, by omega, rfl, rfl, rfl, rfl, rfl, by simp, by simp, rfl, fun _ => rfl⟩
  case round =>
    obtain ⟨k, P, A, B, R, hk, rfl, rfl, rfl, rfl, rfl, hA, hB, hR, hP⟩ := hrel
    by_cases hlt : k < 32
    · have hP0 := hP hlt
      have hp : P ≤ 2147483648 := by rw [hP0]; exact Nat.pow_le_pow_right (n := 2) (by omega) (by omega : k ≤ 31)
      have hr : R < P := by rw [hP0, hR]; exact bitsN_lt one two a b k
      have hs : bitsN one two a b (k + 1) = R + P * bit1 one two (A % 2 + B % 2) := by rw [hR, hP0, hA, hB]; rfl
      have ha1 : A / 2 = a / 2 ^ (k + 1) := by rw [hA, Nat.pow_succ, Nat.div_div_eq_div_mul]
      have hb1 : B / 2 = b / 2 ^ (k + 1) := by rw [hB, Nat.pow_succ, Nat.div_div_eq_div_mul]
      have hp1 : k + 1 < 32 → P * 2 % 4294967296 = 2 ^ (k + 1) := fun h => by
        have e : 2 ^ (k + 1) = 2 ^ k * 2 := Nat.pow_succ ..
        have : 2 ^ (k + 1) ≤ 2147483648 := Nat.pow_le_pow_right (n := 2) (by omega) (by omega : k + 1 ≤ 31)
        omega
      have ha2 : A < 4294967296 := by rw [hA]; exact Nat.lt_of_le_of_lt (Nat.div_le_self _ _) ha
      have hb2 : B < 4294967296 := by rw [hB]; exact Nat.lt_of_le_of_lt (Nat.div_le_self _ _) hb
      have hpw := u32_wrap (P * 2)
      rw [Int.natCast_mul] at hpw
      have HA := Lib.hid ha1
      have HB := Lib.hid hb1
      have HP := Lib.hid hp1
      have HW := Lib.hid hpw
      clear ha1 hb1 hp1 hpw hA hB hR hP0 hP
      rcases (by omega : A % 2 = 0 ∨ A % 2 = 1) with hA2 | hA2 <;> rcases (by omega : B % 2 = 0 ∨ B % 2 = 1) with hB2 | hB2
      all_goals
        have hA3 : (A : Int) % 2 = ((A % 2 : Nat) : Int) := by omega
        have hB3 : (B : Int) % 2 = ((B % 2 : Nat) : Int) := by omega
        rw [hA2] at hA3 hs
        rw [hB2] at hB3 hs
        have HS3 := Lib.hid hs
        clear hs hA2 hB2
        cases one <;> cases two
        all_goals
          go_wp2_with fail
          go_round
          case rel => exact ⟨k + 1, P * 2 % 4294967296, A / 2, B / 2, bitsN _ _ a b (k + 1), by omega, by go_num, rfl, rfl, by rw [HS3.out]; simp [bit1], congrArg _ HW.out, HA.out, HB.out, rfl, HP.out⟩
          case measure => simp [intOf]; omega
    · obtain rfl : k = 32 := by omega
      subst hR
      go_wp2
      go_ret
      exact ⟨rfl, rfl⟩

end Go.Proofs.Ytonaclpebakemaa.Fold
