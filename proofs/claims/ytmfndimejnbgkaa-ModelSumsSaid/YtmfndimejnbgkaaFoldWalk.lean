/-
  Contracts of the package fold and of the document's answer: Start, Join, Map, Test on numbers.
-/
import Derived.Test.YtmfndimejnbgkaaFoldMath
import Derived.Test.YtmfndimejnbgkaaRowOf
import Derived.Laws.BitsAllLaws
import Derived.WalkLawsBesides
import Derived.IntWalk
import Derived.Test.YtmfndimejnbgkaaChecked
namespace Go.Proofs.Ytmfndimejnbgkaa.Fold
open Go Go.RowKit Go.Proofs.Ytmfndimejnbgkaa.Law

theorem u32_wrap (n : Nat) : IntKind.u32.wrap (n : Int) = ((n % 4294967296 : Nat) : Int) := by rw [IntKind.wrap_u32']; omega
theorem which (x : Int) : (x < 0 ∨ 6 < x) ∨ x = 0 ∨ x = 1 ∨ x = 2 ∨ x = 3 ∨ x = 4 ∨ x = 5 ∨ x = 6 := by omega
theorem ret_u32 {a b : Int} (h : a = b) : Ending.returned (.int .u32 a) = .returned (.int .u32 b) := by rw [h]
abbrev RetU (n : Nat) (w : World) (e : Ending) (w' : World) : Prop := e = .returned (.int .u32 (n : Nat)) ∧ w = w'
abbrev RetBo (b : Bool) (w : World) (e : Ending) (w' : World) : Prop := e = .returned (.bool b) ∧ w = w'

set_option maxHeartbeats 400000 in
theorem isFold_calls (x : Int) (w : World) : Calls Try.prog 152 #[.int .i64 x] w (RetBo (isF x) w) := by
  unfold isF
  by_cases h : 0 ≤ x ∧ x < 7
  · rw [decide_eq_true h]
    obtain ⟨h1, h2⟩ := h
    go_enter Try.func152, Try.ntmps152
    go_wp2_with fail
    go_ret
    exact ⟨rfl, rfl⟩
  · rw [show decide (0 ≤ x ∧ x < 7) = false from decide_eq_false h]
    rcases (by omega : x < 0 ∨ 7 ≤ x) with h1 | h1
    · clear h
      go_enter Try.func152, Try.ntmps152
      go_wp2_with fail
      go_ret
      exact ⟨rfl, rfl⟩
    · have h0 : 0 ≤ x := by omega
      have hd : decide (x < 7) = false := by simpa using h1
      clear h
      go_enter Try.func152, Try.ntmps152
      go_wp2_with fail
      go_ret
      exact ⟨rfl, rfl⟩

set_option maxHeartbeats 400000 in
theorem start_calls (x : Int) (v : Nat) (w : World) : Calls Try.prog 153 #[.int .i64 x, .int .u32 (v : Nat)] w (RetU (stN x v) w) := by
  unfold stN
  by_cases h : x < 0 ∨ 6 < x
  · rw [if_pos h]
    have hF := isFold_calls x w
    have h1 : isF x = false := decide_eq_false (by omega)
    rw [h1] at hF
    have HF := Lib.hid hF
    clear hF h1 h
    go_enter Try.func153, Try.ntmps153
    go_wp2_with fail
    refine HF.out.mono ?_
    rintro e w' ⟨rfl, rfl⟩
    go_wp2_with fail
    go_ret
    exact ⟨rfl, rfl⟩
  · rw [if_neg h]
    have hF := isFold_calls x w
    have h1 : isF x = true := decide_eq_true (by omega)
    rw [h1] at hF
    have HF := Lib.hid hF
    clear hF h1 h
    by_cases h2 : x = 1
    · subst h2
      rw [if_pos rfl]
      go_enter Try.func153, Try.ntmps153
      go_wp2_with fail
      refine HF.out.mono ?_
      rintro e w' ⟨rfl, rfl⟩
      go_wp2_with fail
      go_ret
      exact ⟨rfl, rfl⟩
    · rw [if_neg h2]
      have h3 : (x == 1) = false := by simpa using h2
      clear h2
      go_enter Try.func153, Try.ntmps153
      go_wp2_with fail
      refine HF.out.mono ?_
      rintro e w' ⟨rfl, rfl⟩
      go_wp2_with fail
      go_ret
      exact ⟨rfl, rfl⟩

set_option maxHeartbeats 1000000 in
theorem join_calls (x : Int) (a b : Nat) (ha : a < 4294967296) (hb : b < 4294967296) (w : World) : Calls Try.prog 112 #[.int .i64 x, .int .u32 (a : Nat), .int .u32 (b : Nat)] w (RetU (jnN x a b) w) := by
  have hadd := Lib.hid (u32_wrap (a + b))
  rcases which x with h | rfl | rfl | rfl | rfl | rfl | rfl | rfl
  · have e : jnN x a b = 0 := by
      unfold jnN
      rw [if_neg (by omega), if_neg (by omega), if_neg (by omega), if_neg (by omega), if_neg (by omega), if_neg (by omega)]
    rw [e]
    have g0 : (x == 0) = false := by rw [beq_eq_false_iff_ne]; omega
    have g1 : (x == 1) = false := by rw [beq_eq_false_iff_ne]; omega
    have g2 : (x == 2) = false := by rw [beq_eq_false_iff_ne]; omega
    have g3 : (x == 3) = false := by rw [beq_eq_false_iff_ne]; omega
    have g4 : (x == 4) = false := by rw [beq_eq_false_iff_ne]; omega
    have g5 : (x == 5) = false := by rw [beq_eq_false_iff_ne]; omega
    have g6 : (x == 6) = false := by rw [beq_eq_false_iff_ne]; omega
    clear h e
    go_enter Try.func112, Try.ntmps112
    go_wp2_with fail
    go_ret
    exact ⟨rfl, rfl⟩
  · go_enter Try.func112, Try.ntmps112
    go_wp2_with fail
    go_ret
    exact ⟨ret_u32 hadd.out, rfl⟩
  · go_enter Try.func112, Try.ntmps112
    go_wp2_with fail
    go_ret
    exact ⟨ret_u32 hadd.out, rfl⟩
  · go_enter Try.func112, Try.ntmps112
    go_wp2_with fail
    all_goals
      go_ret
      exact ⟨ret_u32 (by show _ = ((max a b : Nat) : Int); omega), rfl⟩
  · go_enter Try.func112, Try.ntmps112
    go_wp2_with fail
    all_goals
      go_ret
      exact ⟨ret_u32 (by show _ = ((min a b : Nat) : Int); omega), rfl⟩
  · have hx := u32_xor_nat a b ha hb
    go_enter Try.func112, Try.ntmps112
    go_wp2_with fail
    go_ret
    exact ⟨rfl, rfl⟩
  · have hx := u32_and_nat a b ha hb
    go_enter Try.func112, Try.ntmps112
    go_wp2_with fail
    go_ret
    exact ⟨rfl, rfl⟩
  · have hx := u32_or_nat a b ha hb
    go_enter Try.func112, Try.ntmps112
    go_wp2_with fail
    go_ret
    exact ⟨rfl, rfl⟩

theorem u32_shr (v n : Nat) : (v : Int) / ((2 ^ n : Nat) : Int) = ((v / 2 ^ n : Nat) : Int) := by omega

set_option maxHeartbeats 1000000 in
theorem map_calls (x : Int) (n v : Nat) (hn : n < 4294967296) (hv : v < 4294967296) (w : World) : Calls Try.prog 136 #[.int .i64 x, .int .u32 (n : Nat), .int .u32 (v : Nat)] w (RetU (mpN x n v) w) := by
  have hadd := Lib.hid (u32_wrap (v + n))
  have hmul := Lib.hid (u32_wrap (v * n))
  have hsq := Lib.hid (u32_wrap (v * v))
  have hsq2 := Lib.hid (u32_wrap (v * v % 4294967296 + n))
  rcases which x with h | rfl | rfl | rfl | rfl | rfl | rfl | rfl
  · have e : mpN x n v = 0 := by
      unfold mpN
      rw [if_neg (by omega), if_neg (by omega), if_neg (by omega), if_neg (by omega), if_neg (by omega), if_neg (by omega)]
    rw [e]
    have g0 : (x == 0) = false := by rw [beq_eq_false_iff_ne]; omega
    have g1 : (x == 1) = false := by rw [beq_eq_false_iff_ne]; omega
    have g2 : (x == 2) = false := by rw [beq_eq_false_iff_ne]; omega
    have g3 : (x == 3) = false := by rw [beq_eq_false_iff_ne]; omega
    have g4 : (x == 4) = false := by rw [beq_eq_false_iff_ne]; omega
    have g5 : (x == 5) = false := by rw [beq_eq_false_iff_ne]; omega
    clear h e
    go_enter Try.func136, Try.ntmps136
    go_wp2_with fail
    go_ret
    exact ⟨rfl, rfl⟩
  · go_enter Try.func136, Try.ntmps136
    go_wp2_with fail
    go_ret
    exact ⟨ret_u32 hadd.out, rfl⟩
  · go_enter Try.func136, Try.ntmps136
    go_wp2_with fail
    go_ret
    exact ⟨ret_u32 (by rw [← Int.natCast_mul]; exact hmul.out), rfl⟩
  · have hx := u32_xor_nat v n hv hn
    go_enter Try.func136, Try.ntmps136
    go_wp2_with fail
    go_ret
    exact ⟨rfl, rfl⟩
  · have hk : n % 32 < 32 := by omega
    have hm : (n : Int) % 32 = ((n % 32 : Nat) : Int) := by omega
    have hs := u32_shr v (n % 32)
    obtain ⟨k, hk'⟩ : ∃ k, n % 32 = k := ⟨_, rfl⟩
    rw [hk'] at hk hm hs
    go_enter Try.func136, Try.ntmps136
    go_wp2_with fail
    go_ret
    exact ⟨ret_u32 (by show (v : Int) / 2 ^ k = ((v / 2 ^ (n % 32) : Nat) : Int); rw [hk', ← hs]; simp), rfl⟩
  · go_enter Try.func136, Try.ntmps136
    go_wp2_with fail
    go_ret
    exact ⟨rfl, rfl⟩
  · go_enter Try.func136, Try.ntmps136
    go_wp2_with fail
    go_ret
    exact ⟨ret_u32 (by rw [← Int.natCast_mul]; show _ = (((v * v + n) % 4294967296 : Nat) : Int); omega), rfl⟩
  · go_enter Try.func136, Try.ntmps136
    go_wp2_with fail
    go_ret
    exact ⟨rfl, rfl⟩

set_option maxHeartbeats 1000000 in
theorem test_calls (x : Int) (n v : Nat) (hn : n < 4294967296) (hv : v < 4294967296) (w : World) : Calls Try.prog 113 #[.int .i64 x, .int .u32 (n : Nat), .int .u32 (v : Nat)] w (RetBo (tsN x n v) w) := by
  rcases which x with h | rfl | rfl | rfl | rfl | rfl | rfl | rfl
  · have e : tsN x n v = false := by
      unfold tsN
      rw [if_neg (by omega), if_neg (by omega), if_neg (by omega), if_neg (by omega)]
    rw [e]
    have g0 : (x == 0) = false := by rw [beq_eq_false_iff_ne]; omega
    have g1 : (x == 1) = false := by rw [beq_eq_false_iff_ne]; omega
    have g2 : (x == 2) = false := by rw [beq_eq_false_iff_ne]; omega
    have g3 : (x == 3) = false := by rw [beq_eq_false_iff_ne]; omega
    clear h e
    go_enter Try.func113, Try.ntmps113
    go_wp2_with fail
    go_ret
    exact ⟨rfl, rfl⟩
  · by_cases h : v < n
    · rw [show tsN 0 n v = true from decide_eq_true h]
      go_enter Try.func113, Try.ntmps113
      go_wp2_with fail
      go_ret
      exact ⟨rfl, rfl⟩
    · rw [show tsN 0 n v = false from decide_eq_false h]
      have h' : n ≤ v := by omega
      go_enter Try.func113, Try.ntmps113
      go_wp2_with fail
      go_ret
      exact ⟨rfl, rfl⟩
  · by_cases h : n ≤ v
    · rw [show tsN 1 n v = true from decide_eq_true h]
      go_enter Try.func113, Try.ntmps113
      go_wp2_with fail
      go_ret
      exact ⟨rfl, rfl⟩
    · rw [show tsN 1 n v = false from decide_eq_false h]
      have h' : v < n := by omega
      go_enter Try.func113, Try.ntmps113
      go_wp2_with fail
      go_ret
      exact ⟨rfl, rfl⟩
  · have hx := u32_and_nat v n hv hn
    have he : tsN 2 n v = decide (v &&& n ≠ 0) := rfl
    rw [he]
    obtain ⟨z, hz⟩ : ∃ z, v &&& n = z := ⟨_, rfl⟩
    rw [hz] at hx ⊢
    clear hz he
    by_cases h : z = 0
    · subst h
      go_enter Try.func113, Try.ntmps113
      go_wp2_with fail
      go_ret
      exact ⟨rfl, rfl⟩
    · rw [decide_eq_true h]
      have h' : ((z : Int) != 0) = true := by rw [bne_iff_ne]; omega
      clear h
      go_enter Try.func113, Try.ntmps113
      go_wp2_with fail
      go_ret
      exact ⟨rfl, rfl⟩
  · have he : tsN 3 n v = decide (n ≠ 0 ∧ v % n = 0) := rfl
    rw [he]
    by_cases h : n = 0
    · subst h
      go_enter Try.func113, Try.ntmps113
      go_wp2_with fail
      go_ret
      exact ⟨rfl, rfl⟩
    · have h' : ((n : Int) != 0) = true := by rw [bne_iff_ne]; omega
      have h1 : 1 ≤ n := by omega
      have hm : (v : Int) % (n : Int) = ((v % n : Nat) : Int) := by omega
      obtain ⟨z, hz⟩ : ∃ z, v % n = z := ⟨_, rfl⟩
      rw [hz] at hm ⊢
      clear hz he
      by_cases h2 : z = 0
      · rw [decide_eq_true ⟨h, h2⟩]
        subst h2
        clear h
        go_enter Try.func113, Try.ntmps113
        go_wp2_with fail
        go_ret
        exact ⟨rfl, rfl⟩
      · rw [decide_eq_false (fun h => h2 h.2)]
        have h3 : ((z : Int) == 0) = false := by rw [beq_eq_false_iff_ne]; omega
        clear h h2
        go_enter Try.func113, Try.ntmps113
        go_wp2_with fail
        go_ret
        exact ⟨rfl, rfl⟩
  · go_enter Try.func113, Try.ntmps113
    go_wp2_with fail
    go_ret
    exact ⟨rfl, rfl⟩
  · go_enter Try.func113, Try.ntmps113
    go_wp2_with fail
    go_ret
    exact ⟨rfl, rfl⟩
  · go_enter Try.func113, Try.ntmps113
    go_wp2_with fail
    go_ret
    exact ⟨rfl, rfl⟩

end Go.Proofs.Ytmfndimejnbgkaa.Fold
