/-
  Contracts of numbers: how many digits, digits behind bytes.
-/
import Derived.Test.YtffehnojcajhiaaWireApt
import Derived.Test.YtffehnojcajhiaaWireLen
import Derived.Lib.VarintBits
import Derived.Laws.BitsAllLaws
namespace Go.Proofs.Ytffehnojcajhiaa.Wire
open Go Go.RowKit Go.Proofs.Ytffehnojcajhiaa.Law

theorem numF_between (f : Nat) : ∀ n, n < 128 ^ (f + 1) → n < 128 ^ (numF f n).length ∧ ((numF f n).length = 1 ∨ 128 ^ ((numF f n).length - 1) ≤ n) := by
  induction f with
  | zero => intro n h; simp only [numF, List.length_singleton]; exact ⟨by simpa using h, .inl trivial⟩
  | succ f ih =>
    intro n h
    rw [numF]
    split
    · rename_i h1; exact ⟨by simpa using h1, .inl rfl⟩
    · rename_i h1
      have h2 := ih (n / 128) (by rw [Nat.pow_succ] at h; exact (Nat.div_lt_iff_lt_mul (by decide)).2 h)
      have hp := numF_pos f (n / 128)
      obtain ⟨L, hL⟩ : ∃ L, (numF f (n / 128)).length = L := ⟨_, rfl⟩
      rw [hL] at h2 hp
      rw [List.length_cons, hL]
      refine ⟨?_, .inr ?_⟩
      · rw [Nat.pow_succ]; exact (Nat.div_lt_iff_lt_mul (by decide)).1 h2.1
      · rw [Nat.add_sub_cancel]
        obtain ⟨M, rfl⟩ : ∃ M, L = M + 1 := ⟨L - 1, by omega⟩
        rcases h2.2 with h3 | h3
        · obtain rfl : M = 0 := by omega
          simpa using h1
        · rw [Nat.add_sub_cancel] at h3
          rw [Nat.pow_succ]; exact (Nat.le_div_iff_mul_le (by decide)).1 h3

theorem num_length {n : Nat} (h : n < 18446744073709551616) : ((Lib.bitLen (n ||| 1) : Int) + 7 - 1) / 7 = ((num n).length : Int) := by
  have hb := numF_between 9 n (by have : 128 ^ (9 + 1) = 1180591620717411303424 := by decide
                                  omega)
  have hp := numF_pos 9 n
  have hm : n ||| 1 = n / 2 * 2 + 1 := by
    apply Nat.eq_of_testBit_eq
    intro i
    rw [Nat.testBit_or]
    cases i with
    | zero => simp
    | succ i =>
      rw [Nat.testBit_succ, Nat.testBit_succ, Nat.testBit_succ, show (n / 2 * 2 + 1) / 2 = n / 2 by omega, show 1 / 2 = 0 by decide]
      simp
  have hne : (n ||| 1) ≠ 0 := by omega
  change ((Lib.bitLen (n ||| 1) : Int) + 7 - 1) / 7 = ((numF 9 n).length : Int)
  obtain ⟨L, hL⟩ : ∃ L, (numF 9 n).length = L := ⟨_, rfl⟩
  rw [hL] at hb hp ⊢
  obtain ⟨B, hB⟩ : ∃ B, Lib.bitLen (n ||| 1) = B := ⟨_, rfl⟩
  rw [hB]
  obtain ⟨M, rfl⟩ : ∃ M, L = M + 1 := ⟨L - 1, by omega⟩
  have e1 : 128 ^ (M + 1) = 2 ^ (7 * M + 7) := by rw [show (128 : Nat) = 2 ^ 7 by decide, ← Nat.pow_mul]; congr 1
  have e2 : 128 ^ M = 2 ^ (7 * M) := by rw [show (128 : Nat) = 2 ^ 7 by decide, ← Nat.pow_mul]
  have h1 : (n ||| 1) < 2 ^ (7 * M + 7) := by
    rw [← e1]
    have he : 128 ^ (M + 1) = 2 * (64 * 128 ^ M) := by rw [Nat.pow_succ]; omega
    omega
  have h2 : 2 ^ (7 * M) ≤ (n ||| 1) := by
    rcases hb.2 with h3 | h3
    · obtain rfl : M = 0 := by omega
      simp; omega
    · rw [Nat.add_sub_cancel, e2] at h3; omega
  have hM : M ≤ 9 := by have := numF_le 9 n; omega
  have hlt : n ||| 1 < 2 ^ 64 := Nat.or_lt_two_pow (by omega) (by decide)
  have h4 : 7 * M + 1 ≤ B := by
    have h5 := Lib.bitLen_shift (7 * M) (n ||| 1) h2 hlt
    have h6 : (n ||| 1) / 2 ^ (7 * M) ≠ 0 := by
      have := Nat.div_pos h2 (Nat.two_pow_pos (7 * M))
      omega
    have h7 := Lib.bitLen_half ((n ||| 1) / 2 ^ (7 * M)) h6 (Nat.lt_of_le_of_lt (Nat.div_le_self _ _) hlt)
    omega
  have h3 : B ≤ 7 * M + 7 := by
    by_cases h9 : M = 9
    · have := Lib.bitLen_le (n ||| 1) 64 (by omega) hlt; omega
    · have := Lib.bitLen_le (n ||| 1) (7 * M + 7) (by omega) h1; omega
  omega

set_option maxRecDepth 100000 in
set_option maxHeartbeats 2000000 in
theorem digits_calls (n : Nat) (h : n < 18446744073709551616) (w : World) :
    Calls Try.prog 48 #[.int .u64 (n : Nat)] w fun e W => e = .returned (.int .i64 ((num n).length : Nat)) ∧ w = W := by
  have hl := num_length h
  have ho := u64_or (n : Int) 1 (by omega) (by omega) (by decide) (by decide)
  have h1 : 0 ≤ bits .or .u64 (n : Int) 1 ∧ bits .or .u64 (n : Int) 1 ≤ 18446744073709551615 ∧ (bits .or .u64 (n : Int) 1).toNat = n ||| 1 := by
    rw [ho]
    have : ((n : Int).toNat ||| (1 : Int).toNat) = n ||| 1 := by simp
    rw [this]
    have hlt : n ||| 1 < 2 ^ 64 := Nat.or_lt_two_pow (by omega) (by decide)
    omega
  obtain ⟨m, hm⟩ : ∃ m, bits .or .u64 (n : Int) 1 = m := ⟨_, rfl⟩
  rw [hm] at h1
  obtain ⟨c1, c2, c3⟩ := h1
  have cc := len64_calls m w c1 c2
  rw [c3] at cc
  have hB : Lib.bitLen (n ||| 1) ≤ 64 := Lib.bitLen_le _ 64 (by omega) (Nat.or_lt_two_pow (by omega) (by decide))
  obtain ⟨B, hB0⟩ : ∃ B, Lib.bitLen (n ||| 1) = B := ⟨_, rfl⟩
  rw [hB0] at hl cc hB
  have HL := Lib.hid hl
  have CC := Lib.hid cc
  clear hl cc c1 c2 c3 hB0 ho
  go_enter Try.func48, Try.ntmps48
  go_wp2_with fail
  refine CC.out.mono ?_
  rintro e W ⟨rfl, rfl⟩
  clear hm
  go_wp2
  go_ret
  exact ⟨ret_int HL.out, rfl⟩

/-- Bytes of the call's own. -/
def Owned (base : Nat) (w : World) (bs : List Nat) (e : Ending) (W : World) : Prop := ∃ v, e = .returned v ∧ OwnB W base 5 v bs ∧ Apt base w W

theorem info_u8w : (Try.prog.info? 5).map (fun i => (i.zero, i.size, i.bytes)) = some (some (.int .u8 0), 1, 1) := by kernel_rfl

theorem numF_big (f n : Nat) (h : 128 ≤ n) : numF (f + 1) n = (n % 128 + 128) :: numF f (n / 128) := by rw [numF, if_neg (by omega)]
theorem numF_small (f n : Nat) (h : n < 128) : numF f n = [n] := by
  cases f with
  | zero => rfl
  | succ f => rw [numF, if_pos h]

set_option maxRecDepth 100000 in
set_option maxHeartbeats 2000000 in
theorem appendNum_calls (v : Value) (xs : List Nat) (hx : xs.length ≤ 140737488355300) (n : Nat) (hn : n < 18446744073709551616) (base : Nat) (w : World) (hO : OwnB w base 5 v xs) (hb : base ≤ w.heap.size) :
    Calls Try.prog 50 #[v, .int .u64 (n : Nat)] w (Owned base w (xs ++ num n)) := by
  obtain ⟨i0, hi, hz0, hz1, hz2⟩ := info_parts info_u8w
  obtain ⟨F, hF⟩ : ∃ F, xs ++ num n = F := ⟨_, rfl⟩
  have hB := Apt.refl base w
  have hten : 128 ^ (9 + 1) = 1180591620717411303424 := by decide
  have h0 : ∃ (f : Nat) (ys : List Nat), n < 128 ^ (f + 1) ∧ ys ++ numF f n = F ∧ ys.length + f + 1 ≤ 140737488355328 ∧ OwnB w base 5 v ys := ⟨9, xs, by omega, hF, by omega, hO⟩
  rw [hF]
  clear hF hO hten
  have H0 := Lib.hid h0
  clear h0
  go_enter Try.func50, Try.ntmps50
  go_wp2
  go_loopw [0, 1] (fun u m wr => ∃ (n : Nat) (f : Nat) (ys : List Nat), m = .int .u64 (n : Nat) ∧ n < 18446744073709551616 ∧ n < 128 ^ (f + 1) ∧ ys ++ numF f n = F ∧ ys.length + f + 1 ≤ 140737488355328 ∧ OwnB wr base 5 u ys ∧ Apt base w wr)
    (fun _ m _ => (intOf m).toNat)
  case atStart =>
    obtain ⟨f, ys, h1, h2, h3, h4⟩ := H0.out
    exact ⟨n, f, ys, rfl, hn, h1, h2, h3, h4, hB⟩
  case round =>
    obtain ⟨n, f, ys, rfl, hn, h1, h2, h3, h4, h5⟩ := hrel
    have H1 := Lib.hid h1
    have H2 := Lib.hid h2
    have H4 := Lib.hid h4
    have hs := Nat.le_trans hb h5.size
    clear h1 h2 h4
    by_cases hlt : 128 ≤ n
    · have hltI : 128 ≤ (n : Int) := by omega
      obtain ⟨f, rfl⟩ : ∃ g, f = g + 1 := by
        cases f with
        | zero => have := H1.out; simp at this; omega
        | succ g => exact ⟨g, rfl⟩
      have hor := Lib.u8_or128_any ((n : Int) % 256) (by omega) (by omega)
      have hsh : (n : Int) / 128 = ((n / 128 : Nat) : Int) := by omega
      have HOR := Lib.hid hor
      have HSH := Lib.hid hsh
      clear hor hsh
      go_wp2_with (at_builtin; refine wpList_append_bytes rfl _ _ _ rfl Try.underlying48 hi hz0 hz1 hz2 rfl rfl rfl (H4.out.alloc _) (Bytes.lit wr _ _ [n % 128 + 128] 1 (by rfl) (by decide) ?lit (by simp; omega)) (by simp; omega) (by simp; omega) ?next)
      case lit =>
        rw [HOR.out]
        simp only [vals, List.map_cons, List.map_nil]
        rw [show (n : Int) % 256 % 128 + 128 = ((n % 128 + 128 : Nat) : Int) by omega]
      case next =>
        intro v' w' O' G'
        have hB' := (h5.alloc hs _).grown G' (H4.out.alloc _) (Nat.le_refl _) (by simp; omega)
        go_wp2
        go_roundw
        case rel => 
          
          refine ⟨n / 128, f, ys ++ [n % 128 + 128], by rw [HSH.out], by omega, ?_, ?_, by simp; omega, O', hB'⟩
          · have := H1.out
            rw [Nat.pow_succ] at this
            exact (Nat.div_lt_iff_lt_mul (by decide)).2 this
          · have := H2.out
            rw [numF_big f n hlt] at this
            rw [← this]; simp
        case measure => (rw [HSH.out]; simp [intOf]; omega)
    · have hltI : (n : Int) < 128 := by omega
      go_wp2_with (at_builtin; refine wpList_append_bytes rfl _ _ _ rfl Try.underlying48 hi hz0 hz1 hz2 rfl rfl rfl (H4.out.alloc _) (Bytes.lit wr _ _ [n] 1 (by rfl) (by decide) ?lit (by simp; omega)) (by simp; omega) (by simp; omega) ?next)
      case lit =>
        rfl
      case next =>
        intro v' w' O' G'
        have hB' := (h5.alloc hs _).grown G' (H4.out.alloc _) (Nat.le_refl _) (by simp; omega)
        go_wp2
        go_ret
        refine ⟨v', rfl, ?_, hB'⟩
        have := H2.out
        rw [numF_small f n (by omega)] at this
        rw [← this]; exact O'

set_option maxRecDepth 100000 in
set_option maxHeartbeats 2000000 in
theorem refdigits_calls (n : Nat) (hn : n < 18446744073709551616) (w : World) :
    Calls Try.prog 54 #[.int .u64 (n : Nat)] w (Owned w.heap.size w (num n)) := by
  obtain ⟨i0, hi, hz0, hz1, hz2⟩ := info_parts info_u8w
  obtain ⟨F, hF⟩ : ∃ F, num n = F := ⟨_, rfl⟩
  obtain ⟨base, hbase⟩ : ∃ b, w.heap.size = b := ⟨_, rfl⟩
  have hB := Apt.refl base w
  have hb : base ≤ w.heap.size := by omega
  have hten : 128 ^ (9 + 1) = 1180591620717411303424 := by decide
  have h0 : ∃ (f : Nat) (ys : List Nat), n < 128 ^ (f + 1) ∧ ys ++ numF f n = F ∧ ys.length + f + 1 ≤ 140737488355328 ∧ OwnB w base 5 (.slice none 0 0) ys := ⟨9, [], by omega, hF, by simp, ⟨by simpa [vals] using World.ownsRow_nil w base 5 1, by simp⟩⟩
  rw [hF, hbase]
  clear hF hten hbase
  have H0 := Lib.hid h0
  clear h0
  go_enter Try.func54, Try.ntmps54
  go_wp2
  go_loopw [3, 0] (fun u m wr => ∃ (n : Nat) (f : Nat) (ys : List Nat), m = .int .u64 (n : Nat) ∧ n < 18446744073709551616 ∧ n < 128 ^ (f + 1) ∧ ys ++ numF f n = F ∧ ys.length + f + 1 ≤ 140737488355328 ∧ OwnB wr base 5 u ys ∧ Apt base w wr)
    (fun _ m _ => (intOf m).toNat)
  case atStart =>
    obtain ⟨f, ys, h1, h2, h3, h4⟩ := H0.out
    exact ⟨n, f, ys, rfl, hn, h1, h2, h3, h4, hB⟩
  case round =>
    obtain ⟨n, f, ys, rfl, hn, h1, h2, h3, h4, h5⟩ := hrel
    have H1 := Lib.hid h1
    have H2 := Lib.hid h2
    have H4 := Lib.hid h4
    have hs := Nat.le_trans hb h5.size
    clear h1 h2 h4
    by_cases hlt : 128 ≤ n
    · have hltI : 127 < (n : Int) := by omega
      obtain ⟨f, rfl⟩ : ∃ g, f = g + 1 := by
        cases f with
        | zero => have := H1.out; simp at this; omega
        | succ g => exact ⟨g, rfl⟩
      have hsh : (n : Int) / 128 = ((n / 128 : Nat) : Int) := by omega
      have HSH := Lib.hid hsh
      clear hsh
      go_wp2_with (at_builtin; refine wpList_append_bytes rfl _ _ _ rfl Try.underlying48 hi hz0 hz1 hz2 rfl rfl rfl (H4.out.alloc _) (Bytes.lit wr _ _ [n % 128 + 128] 1 (by rfl) (by decide) ?lit (by simp; omega)) (by simp; omega) (by simp; omega) ?next)
      case lit =>
        (simp only [vals, List.map_cons, List.map_nil]; rw [show ((n : Int) % 128 + 128) = ((n % 128 + 128 : Nat) : Int) by omega])
      case next =>
        intro v' w' O' G'
        have hB' := (h5.alloc hs _).grown G' (H4.out.alloc _) (Nat.le_refl _) (by simp; omega)
        go_wp2
        go_roundw
        case rel => 
          refine ⟨n / 128, f, ys ++ [n % 128 + 128], by rw [HSH.out], by omega, ?_, ?_, by simp; omega, O', hB'⟩
          · have := H1.out
            rw [Nat.pow_succ] at this
            exact (Nat.div_lt_iff_lt_mul (by decide)).2 this
          · have := H2.out
            rw [numF_big f n hlt] at this
            rw [← this]; simp
        case measure => (rw [HSH.out]; simp [intOf]; omega)
    · have hltI : (n : Int) < 128 := by omega
      go_wp2_with (at_builtin; refine wpList_append_bytes rfl _ _ _ rfl Try.underlying48 hi hz0 hz1 hz2 rfl rfl rfl (H4.out.alloc _) (Bytes.lit wr _ _ [n] 1 (by rfl) (by decide) ?lit (by simp; omega)) (by simp; omega) (by simp; omega) ?next)
      case lit =>
        rfl
      case next =>
        intro v' w' O' G'
        have hB' := (h5.alloc hs _).grown G' (H4.out.alloc _) (Nat.le_refl _) (by simp; omega)
        go_wp2
        go_ret
        refine ⟨v', rfl, ?_, hB'⟩
        have := H2.out
        rw [numF_small f n (by omega)] at this
        rw [← this]; exact O'
end Go.Proofs.Ytffehnojcajhiaa.Wire
