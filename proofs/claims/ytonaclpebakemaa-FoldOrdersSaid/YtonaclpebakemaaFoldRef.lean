/-
  Contracts of the document's answer for layer 10: Join, Map and Test.
-/
import Derived.Test.YtonaclpebakemaaFoldWalk
namespace Go.Proofs.Ytonaclpebakemaa.Fold
open Go Go.RowKit Go.Proofs.Ytonaclpebakemaa.Law

theorem u32_lt (n : Nat) (h : n < 4294967296) : IntKind.u32.wrap (n : Int) = (n : Int) := by rw [u32_wrap, Nat.mod_eq_of_lt h]

set_option maxHeartbeats 1000000 in
theorem refJoin_calls (x : Int) (a b : Nat) (ha : a < 4294967296) (hb : b < 4294967296) (w : World) : Calls Try.prog 11 #[.int .i64 x, .int .u32 (a : Nat), .int .u32 (b : Nat)] w (RetU (jnN x a b) w) := by
  have CB := fun one two => Lib.hid (bits_calls one two a b ha hb w)
  have e4 := Lib.hid (bits_xor a b ha hb)
  have e5 := Lib.hid (bits_and a b ha)
  have e6 := Lib.hid (bits_or a b ha hb)
  rcases which x with h | rfl | rfl | rfl | rfl | rfl | rfl | rfl
  · have e : jnN x a b = 0 := by
      unfold jnN
      rw [if_neg (by omega), if_neg (by omega), if_neg (by omega), if_neg (by omega), if_neg (by omega), if_neg (by omega)]
    rw [e]
    have g0 : (x == 0) = false := by rw [beq_eq_false_iff_ne]; omega
    have g1 : (x == 1) = false := by rw [beq_eq_false_iff_ne]; omega
    have g2 : (x == 2) = false := by rw [beq_eq_false_iff_ne]; omega
    have g3 : (x == 3) = false := by rw [beq_eq_false_iff_ne]; omega
    have g4 : (x == 4) = false := by rw [beq_eq_false_iff_ne]; omega
    have g5 : (x == 5) = false := by rw [beq_eq_false_iff_ne]; omega
    have g6 : (x == 6) = false := by rw [beq_eq_false_iff_ne]; omega
    clear h e
    go_enter Try.func11, Try.ntmps11
    go_wp2_with fail
    go_ret
    exact ⟨rfl, rfl⟩
  · go_enter Try.func11, Try.ntmps11
    go_wp2_with fail
    go_ret
    exact ⟨ret_u32 (by show _ = (((a + b) % 4294967296 : Nat) : Int); omega), rfl⟩
  · go_enter Try.func11, Try.ntmps11
    go_wp2_with fail
    go_ret
    exact ⟨ret_u32 (by show _ = (((a + b) % 4294967296 : Nat) : Int); omega), rfl⟩
  · go_enter Try.func11, Try.ntmps11
    go_wp2_with fail
    all_goals
      go_ret
      exact ⟨ret_u32 (by show _ = ((max a b : Nat) : Int); omega), rfl⟩
  · go_enter Try.func11, Try.ntmps11
    go_wp2_with fail
    all_goals
      go_ret
      exact ⟨ret_u32 (by show _ = ((min a b : Nat) : Int); omega), rfl⟩
  · go_enter Try.func11, Try.ntmps11
    go_wp2_with fail
    refine (CB true false).out.mono ?_
    rintro e w' ⟨rfl, rfl⟩
    go_wp2_with fail
    go_ret
    exact ⟨ret_u32 (by rw [e4.out]; rfl), rfl⟩
  · go_enter Try.func11, Try.ntmps11
    go_wp2_with fail
    refine (CB false true).out.mono ?_
    rintro e w' ⟨rfl, rfl⟩
    go_wp2_with fail
    go_ret
    exact ⟨ret_u32 (by rw [e5.out]; rfl), rfl⟩
  · go_enter Try.func11, Try.ntmps11
    go_wp2_with fail
    refine (CB true true).out.mono ?_
    rintro e w' ⟨rfl, rfl⟩
    go_wp2_with fail
    go_ret
    exact ⟨ret_u32 (by rw [e6.out]; rfl), rfl⟩

set_option maxHeartbeats 1000000 in
theorem refMap_calls (x : Int) (n v : Nat) (hn : n < 4294967296) (hv : v < 4294967296) (w : World) : Calls Try.prog 13 #[.int .i64 x, .int .u32 (n : Nat), .int .u32 (v : Nat)] w (RetU (mpN x n v) w) := by
  have CB := Lib.hid (bits_calls true false v n hv hn w)
  have e4 := Lib.hid (bits_xor v n hv hn)
  have hvv : v * v < 18446744073709551616 := Nat.lt_of_lt_of_le (Nat.mul_lt_mul'' hv hv) (by decide)
  have hvn : v * n < 18446744073709551616 := Nat.lt_of_lt_of_le (Nat.mul_lt_mul'' hv hn) (by decide)
  rcases which x with h | rfl | rfl | rfl | rfl | rfl | rfl | rfl
  · have e : mpN x n v = 0 := by
      unfold mpN
      rw [if_neg (by omega), if_neg (by omega), if_neg (by omega), if_neg (by omega), if_neg (by omega), if_neg (by omega)]
    rw [e]
    have g0 : (x == 0) = false := by rw [beq_eq_false_iff_ne]; omega
    have g1 : (x == 1) = false := by rw [beq_eq_false_iff_ne]; omega
    have g2 : (x == 2) = false := by rw [beq_eq_false_iff_ne]; omega
    have g3 : (x == 3) = false := by rw [beq_eq_false_iff_ne]; omega
    have g4 : (x == 4) = false := by rw [beq_eq_false_iff_ne]; omega
    have g5 : (x == 5) = false := by rw [beq_eq_false_iff_ne]; omega
    clear h e
    go_enter Try.func13, Try.ntmps13
    go_wp2_with fail
    go_ret
    exact ⟨rfl, rfl⟩
  · go_enter Try.func13, Try.ntmps13
    go_wp2_with fail
    go_ret
    exact ⟨ret_u32 (by show _ = (((v + n) % 4294967296 : Nat) : Int); omega), rfl⟩
  · obtain ⟨m, hm⟩ : ∃ m, v * n = m := ⟨_, rfl⟩
    have hmi : (v : Int) * (n : Int) = (m : Int) := by rw [← Int.natCast_mul, hm]
    rw [show mpN 1 n v = m % 4294967296 by rw [← hm]; rfl]
    rw [hm] at hvn
    clear hm hvv
    go_enter Try.func13, Try.ntmps13
    go_wp2_with fail
    go_ret
    exact ⟨ret_u32 (by show _ = ((m % 4294967296 : Nat) : Int); omega), rfl⟩
  · go_enter Try.func13, Try.ntmps13
    go_wp2_with fail
    refine CB.out.mono ?_
    rintro e w' ⟨rfl, rfl⟩
    go_wp2_with fail
    go_ret
    exact ⟨ret_u32 (by rw [e4.out]; rfl), rfl⟩
  · obtain ⟨m, hm⟩ : ∃ m, n % 32 = m := ⟨_, rfl⟩
    have hmi : (n : Int) % 32 = (m : Int) := by omega
    have hm32 : m < 32 := by omega
    have HM := Lib.hid hm
    clear hvv hvn hm
    go_enter Try.func13, Try.ntmps13
    go_wp2_with fail
    go_loop [7, 9] (fun a i => ∃ k A : Nat, k ≤ m ∧ i = .int .u64 k ∧ a = .int .u64 (A : Nat) ∧ A = v / 2 ^ k) (fun _ i => m - (intOf i).toNat)
    case atStart => exact ⟨0, v, by omega, rfl, rfl, by simp⟩
    case round =>
      obtain ⟨k, A, hk, rfl, rfl, hA⟩ := hrel
      have hA2 : A < 4294967296 := by rw [hA]; exact Nat.lt_of_le_of_lt (Nat.div_le_self _ _) hv
      by_cases hlt : k < m
      · have HA : Hid (A / 2 = v / 2 ^ (k + 1)) := Lib.hid (by rw [hA, Nat.pow_succ, Nat.div_div_eq_div_mul])
        clear hA
        go_wp2_with fail
        go_round
        case rel => exact ⟨k + 1, A / 2, by omega, by go_num, rfl, HA.out⟩
        case measure => simp [intOf]; omega
      · obtain rfl : k = m := by omega
        have HA := Lib.hid hA
        clear hA
        go_wp2_with fail
        go_ret
        exact ⟨ret_u32 (by rw [show mpN 3 n v = A by rw [HA.out, ← HM.out]; rfl]), rfl⟩
  · go_enter Try.func13, Try.ntmps13
    go_wp2_with fail
    go_ret
    exact ⟨rfl, rfl⟩
  · obtain ⟨m, hm⟩ : ∃ m, v * v = m := ⟨_, rfl⟩
    have hmi : (v : Int) * (v : Int) = (m : Int) := by rw [← Int.natCast_mul, hm]
    rw [show mpN 5 n v = (m + n) % 4294967296 by rw [← hm]; rfl]
    rw [hm] at hvv
    clear hm hvn
    go_enter Try.func13, Try.ntmps13
    go_wp2_with fail
    go_ret
    exact ⟨ret_u32 (by show _ = (((m + n) % 4294967296 : Nat) : Int); omega), rfl⟩
  · go_enter Try.func13, Try.ntmps13
    go_wp2_with fail
    go_ret
    exact ⟨rfl, rfl⟩

set_option maxRecDepth 100000 in
set_option maxHeartbeats 1000000 in
theorem refTest_calls (x : Int) (n v : Nat) (hn : n < 4294967296) (hv : v < 4294967296) (w : World) : Calls Try.prog 15 #[.int .i64 x, .int .u32 (n : Nat), .int .u32 (v : Nat)] w (RetBo (tsN x n v) w) := by
  have cb := bits_calls false true v n hv hn w
  rw [bits_and v n hv] at cb
  have CB := Lib.hid cb
  clear cb
  rcases which x with h | rfl | rfl | rfl | rfl | rfl | rfl | rfl
  · have e : tsN x n v = false := by
      unfold tsN
      rw [if_neg (by omega), if_neg (by omega), if_neg (by omega), if_neg (by omega)]
    rw [e]
    have g0 : (x == 0) = false := by rw [beq_eq_false_iff_ne]; omega
    have g1 : (x == 1) = false := by rw [beq_eq_false_iff_ne]; omega
    have g2 : (x == 2) = false := by rw [beq_eq_false_iff_ne]; omega
    have g3 : (x == 3) = false := by rw [beq_eq_false_iff_ne]; omega
    clear h e
    go_enter Try.func15, Try.ntmps15
    go_wp2_with fail
    go_ret
    exact ⟨rfl, rfl⟩
  · by_cases h : v < n
    · rw [show tsN 0 n v = true from decide_eq_true h]
      go_enter Try.func15, Try.ntmps15
      go_wp2_with fail
      go_ret
      exact ⟨rfl, rfl⟩
    · rw [show tsN 0 n v = false from decide_eq_false h]
      have h' : n ≤ v := by omega
      go_enter Try.func15, Try.ntmps15
      go_wp2_with fail
      go_ret
      exact ⟨rfl, rfl⟩
  · by_cases h : n ≤ v
    · rw [show tsN 1 n v = true from decide_eq_true h]
      have hd : decide (v < n) = false := by simpa using h
      go_enter Try.func15, Try.ntmps15
      go_wp2_with fail
      go_ret
      exact ⟨rfl, rfl⟩
    · rw [show tsN 1 n v = false from decide_eq_false h]
      have h' : v < n := by omega
      go_enter Try.func15, Try.ntmps15
      go_wp2_with fail
      go_ret
      exact ⟨rfl, rfl⟩
  · have he : tsN 2 n v = decide (v &&& n ≠ 0) := rfl
    rw [he]
    obtain ⟨z, hz⟩ : ∃ z, v &&& n = z := ⟨_, rfl⟩
    rw [hz] at CB ⊢
    clear hz he
    by_cases h : z = 0
    · subst h
      rw [show decide ((0 : Nat) ≠ 0) = false from rfl]
      go_enter Try.func15, Try.ntmps15
      go_wp2_with fail
      refine CB.out.mono ?_
      rintro e w' ⟨rfl, rfl⟩
      go_wp2_with fail
      go_ret
      exact ⟨rfl, rfl⟩
    · rw [decide_eq_true h]
      have h' : 0 < z := by omega
      clear h
      go_enter Try.func15, Try.ntmps15
      go_wp2_with fail
      refine CB.out.mono ?_
      rintro e w' ⟨rfl, rfl⟩
      go_wp2_with fail
      go_ret
      exact ⟨rfl, rfl⟩
  · have he : tsN 3 n v = decide (n ≠ 0 ∧ v % n = 0) := rfl
    rw [he]
    by_cases h : n = 0
    · subst h
      go_enter Try.func15, Try.ntmps15
      go_wp2_with fail
      go_ret
      exact ⟨rfl, rfl⟩
    · have h1 : 1 ≤ n := by omega
      have h' : ((n : Int) != 0) = true := by rw [bne_iff_ne]; omega
      have h0 : 0 < n := by omega
      have hdm := Nat.div_add_mod v n
      have hq : (v : Int) / (n : Int) = ((v / n : Nat) : Int) := by omega
      obtain ⟨z, hz⟩ : ∃ z, v % n = z := ⟨_, rfl⟩
      obtain ⟨q, hq'⟩ : ∃ q, v / n = q := ⟨_, rfl⟩
      obtain ⟨m, hm⟩ : ∃ m, q * n = m := ⟨_, rfl⟩
      have hmi : (q : Int) * (n : Int) = (m : Int) := by rw [← Int.natCast_mul, hm]
      have hqb : q < 4294967296 := by rw [← hq']; exact Nat.lt_of_le_of_lt (Nat.div_le_self _ _) hv
      rw [hz, hq', Nat.mul_comm, hm] at hdm
      rw [hq'] at hq
      rw [hz]
      have hmv : (m : Int) < 4294967296 := by omega
      clear hz he hm hq'
      by_cases h2 : z = 0
      · rw [decide_eq_true ⟨h, h2⟩]
        have hmv : m = v := by omega
        subst hmv
        clear h hdm h2
        go_enter Try.func15, Try.ntmps15
        go_wp2_with fail
        go_ret
        exact ⟨rfl, rfl⟩
      · rw [decide_eq_false (fun h => h2 h.2)]
        have h3 : (v : Int) - (m : Int) = (z : Int) := by omega
        have h4 : ((z : Int) == 0) = false := by rw [beq_eq_false_iff_ne]; omega
        have h5 : m ≤ v := by omega
        clear h h2 hdm
        go_enter Try.func15, Try.ntmps15
        go_wp2_with fail
        go_ret
        exact ⟨rfl, rfl⟩
  · go_enter Try.func15, Try.ntmps15
    go_wp2_with fail
    go_ret
    exact ⟨rfl, rfl⟩
  · go_enter Try.func15, Try.ntmps15
    go_wp2_with fail
    go_ret
    exact ⟨rfl, rfl⟩
  · go_enter Try.func15, Try.ntmps15
    go_wp2_with fail
    go_ret
    exact ⟨rfl, rfl⟩

end Go.Proofs.Ytonaclpebakemaa.Fold
