/-
  Contracts of the project's package frame and of the document's own answer: a number's four bytes, put behind bytes and read; a copy of bytes.
-/
import Derived.Test.YtmflcpkkeejjpaaDoorCrcRef
import Derived.Test.YtmflcpkkeejjpaaDoorSame
import Derived.Test.YtmflcpkkeejjpaaDoorFrameMath
import Derived.Deep.QuietTactic
import Derived.BigQuiet
import Derived.IntWalk
import Derived.WalkSmall
import Derived.Laws.Cover3
namespace Go.Proofs.YtmflcpkkeejjpaaDoor.Frame
open Go.RowKit Go.Shelf Go.Proofs.YtmflcpkkeejjpaaDoor.Law Go.Proofs.YtmflcpkkeejjpaaDoor.Crc

/-- Bytes of the call's own are handed back, and nothing below the base has turned. -/
def Owned (base : Nat) (w : World) (bs : List Nat) (e : Ending) (W : World) : Prop := ∃ v, e = .returned v ∧ OwnB W base 5 v bs ∧ Below base w W

theorem info_u8' : (Tryd.prog.info? 5).map (fun i => (i.zero, i.size, i.bytes)) = some (some (.int .u8 0), 1, 1) := by kernel_rfl

set_option maxHeartbeats 1000000 in
theorem frameLen_calls (n : Nat) (hn : n ≤ 281474976710656) (w : World) :
    Calls Tryd.prog 24 #[.int .i64 (n : Nat)] w fun e W' => e = .returned (.int .i64 ((n + 12 : Nat) : Int)) ∧ w = W' := by
  have h1 : 8 + (n : Int) ≤ 1000000000000000000 := by omega
  go_enter Tryd.func24, Tryd.ntmps24
  go_wp2
  go_ret
  exact ⟨by rw [show ((n + 12 : Nat) : Int) = 8 + (n : Int) + 4 by omega]; rfl, rfl⟩

set_option maxRecDepth 100000 in
set_option maxHeartbeats 1000000 in
theorem appendNum_calls (v : Value) (xs : List Nat) (hx : xs.length ≤ 1048576) (n : Nat) (hn : n < 4294967296) (base : Nat) (w : World) (hO : OwnB w base 5 v xs) (hb : base ≤ w.heap.size) :
    Calls Tryd.prog 25 #[v, .int .u32 (n : Nat)] w (Owned base w (xs ++ le4 n)) := by
  obtain ⟨i0, hi, hz0, hz1, hz2⟩ := info_parts info_u8'
  have hB1 : ∀ o, Below base w (w.alloc o) := fun o => (Below.refl _ w).alloc hb o
  go_enter Tryd.func25, Tryd.ntmps25
  go_wp2_with (at_builtin; refine wpList_append_bytes rfl _ _ _ rfl Tryd.underlying22 hi hz0 hz1 hz2 rfl rfl rfl (hO.alloc _) (Bytes.lit w _ _ (le4 n) 4 (by rfl) (by decide) ?lit (le4_lt n)) (by rw [le4_length]; omega) (by simp; omega) ?next)
  case lit =>
    have e : n / 16777216 % 256 = n / 16777216 := by omega
    simp [vals, le4, e]
  case next =>
    intro v' w' O' G'
    go_wp2
    go_ret
    exact ⟨v', rfl, O', below_append (hB1 _) G' (hO.alloc _) (Nat.le_refl _) (by simp; omega)⟩

theorem or_join (x y i m : Nat) (hm : 2 ^ i = m) (hx : x < m) (h : x + m * y < 4294967296) : bits .or .u32 (x : Int) ((m * y : Nat) : Int) = ((x + m * y : Nat) : Int) := by
  subst hm
  rw [u32_or_nat _ _ (by omega) (by omega), Nat.or_comm, nat_join i (2 ^ i * y) x (by rw [Nat.mul_mod_right]) hx, Nat.add_comm]

set_option maxRecDepth 100000 in
set_option maxHeartbeats 2000000 in
/-- The number at the front of bytes. -/
theorem num_calls (sv : Value) (bs : List Nat) (h4 : 4 ≤ bs.length) (hreach : bs.length ≤ 140737488351232) (w : World) {n : Nat} (hI : Bytes n w sv bs) :
    Calls Tryd.prog 30 #[sv] w fun e W' => e = .returned (.int .u32 (num4 bs : Nat)) ∧ Below w.heap.size w W' := by
  obtain ⟨A, cap, rfl⟩ := hI.form
  have h256 := hI.lt
  obtain ⟨b, off, rfl, hb, hc⟩ := hI.cells (by omega)
  have c0 := hc 0 (by omega)
  have c1 := hc 1 (by omega)
  have c2 := hc 2 (by omega)
  have c3 := hc 3 (by omega)
  have x0 := getD_lt' h256 0
  have x1 := getD_lt' h256 1
  have x2 := getD_lt' h256 2
  have x3 := getD_lt' h256 3
  obtain ⟨N, hN⟩ : ∃ N, num4 bs = N := ⟨_, rfl⟩
  rw [hN]
  unfold num4 at hN
  obtain ⟨len, hlen⟩ : ∃ len, bs.length = len := ⟨_, rfl⟩
  rw [hlen] at h4 hreach ⊢
  obtain ⟨b0, e0⟩ : ∃ x, bs.getD 0 0 = x := ⟨_, rfl⟩
  obtain ⟨b1, e1⟩ : ∃ x, bs.getD 1 0 = x := ⟨_, rfl⟩
  obtain ⟨b2, e2⟩ : ∃ x, bs.getD 2 0 = x := ⟨_, rfl⟩
  obtain ⟨b3, e3⟩ : ∃ x, bs.getD 3 0 = x := ⟨_, rfl⟩
  rw [e0] at c0 x0 hN
  rw [e1] at c1 x1 hN
  rw [e2] at c2 x2 hN
  rw [e3] at c3 x3 hN
  rw [Nat.add_zero] at c0
  clear hI h256 hc hlen e0 e1 e2 e3
  have hval : bits .or .u32 (bits .or .u32 (bits .or .u32 (b0 : Int) ((b1 : Int) * 256)) ((b2 : Int) * 65536)) ((b3 : Int) * 16777216) = (N : Int) := by
    rw [show (b1 : Int) * 256 = ((256 * b1 : Nat) : Int) by omega, or_join b0 b1 8 256 (by decide) (by omega) (by omega),
      show (b2 : Int) * 65536 = ((65536 * b2 : Nat) : Int) by omega, or_join _ b2 16 65536 (by decide) (by omega) (by omega),
      show (b3 : Int) * 16777216 = ((16777216 * b3 : Nat) : Int) by omega, or_join _ b3 24 16777216 (by decide) (by omega) (by omega)]
    omega
  have HV := Lib.hid hval
  clear hval hN
  go_enter Tryd.func30, Tryd.ntmps30
  go_wp2
  go_quiet (fail)
  go_wp2
  go_ret
  exact ⟨congrArg (fun z => Ending.returned (Value.int .u32 z)) HV.out, below_drewN (Below.refl _ _) _⟩

set_option maxRecDepth 100000 in
set_option maxHeartbeats 2000000 in
/-- .. by the document's own answer. -/
theorem number_calls (sv : Value) (bs : List Nat) (h4 : 4 ≤ bs.length) (hreach : bs.length ≤ 140737488351232) (w : World) {n : Nat} (hI : Bytes n w sv bs) :
    Calls Tryd.prog 32 #[sv] w fun e W' => e = .returned (.int .i64 (num4 bs : Nat)) ∧ Below w.heap.size w W' := by
  obtain ⟨A, cap, rfl⟩ := hI.form
  have h256 := hI.lt
  obtain ⟨b, off, rfl, hb, hc⟩ := hI.cells (by omega)
  have c0 := hc 0 (by omega)
  have c1 := hc 1 (by omega)
  have c2 := hc 2 (by omega)
  have c3 := hc 3 (by omega)
  have x0 := getD_lt' h256 0
  have x1 := getD_lt' h256 1
  have x2 := getD_lt' h256 2
  have x3 := getD_lt' h256 3
  obtain ⟨N, hN⟩ : ∃ N, num4 bs = N := ⟨_, rfl⟩
  rw [hN]
  unfold num4 at hN
  obtain ⟨len, hlen⟩ : ∃ len, bs.length = len := ⟨_, rfl⟩
  rw [hlen] at h4 hreach ⊢
  obtain ⟨b0, e0⟩ : ∃ x, bs.getD 0 0 = x := ⟨_, rfl⟩
  obtain ⟨b1, e1⟩ : ∃ x, bs.getD 1 0 = x := ⟨_, rfl⟩
  obtain ⟨b2, e2⟩ : ∃ x, bs.getD 2 0 = x := ⟨_, rfl⟩
  obtain ⟨b3, e3⟩ : ∃ x, bs.getD 3 0 = x := ⟨_, rfl⟩
  rw [e0] at c0 x0 hN
  rw [e1] at c1 x1 hN
  rw [e2] at c2 x2 hN
  rw [e3] at c3 x3 hN
  rw [Nat.add_zero] at c0
  have HN := Lib.hid hN
  clear hI h256 hc hlen e0 e1 e2 e3 hN
  go_enter Tryd.func32, Tryd.ntmps32
  go_wp2
  go_quiet (fail)
  go_wp2
  go_ret
  exact ⟨by rw [← HN.out]; simp only [Int.natCast_add, Int.natCast_mul]; rfl, below_drewN (Below.refl _ _) _⟩

theorem run_eql_nil {P : Program} (t e : TypeId) (a : Option Addr) (l c : Nat) (h : P.underlying t = some (.slice e)) (w : World) : (binOp .eql t (.slice a l c) (.slice none 0 0)).run P w = .ok (.bool a.isNone) w := by
  simp only [binOp]
  simp [run_equal_slice_nil w t e a l c h]

set_option maxRecDepth 100000 in
set_option maxHeartbeats 1000000 in
/-- A copy of bytes. -/
theorem clone_calls (sv : Value) (bs : List Nat) (hreach : bs.length ≤ 140737488351232) (w : World) (hI : Bytes w.heap.size w sv bs) :
    Calls Tryd.prog 31 #[sv] w (Owned w.heap.size w bs) := by
  obtain ⟨i0, hi, hz0, hz1, hz2⟩ := info_parts info_u8'
  have hB1 : ∀ o, Below w.heap.size w (w.alloc o) := fun o => (Below.refl _ w).alloc (Nat.le_refl _) o
  obtain ⟨A, cap, rfl⟩ := hI.form
  cases A with
  | none =>
    obtain ⟨A', cap', e, h1, h2, h3, h4⟩ := hI
    simp only [Value.slice.injEq] at e
    obtain ⟨rfl, _, rfl⟩ := e
    obtain rfl := h2 rfl
    obtain rfl : bs = [] := List.length_eq_zero_iff.1 (by omega)
    have he := run_eql_nil (P := Tryd.prog) 22 5 none 0 0 Tryd.underlying22 w
    clear h3 h4 hreach h2
    go_enter Tryd.func31, Tryd.ntmps31
    go_wp2
    go_ret
    exact ⟨_, rfl, ⟨by simpa [vals] using World.ownsRow_nil w w.heap.size 5 1, by simp⟩, Below.refl _ _⟩
  | some a =>
    have he := run_eql_nil (P := Tryd.prog) 22 5 (some a) bs.length cap Tryd.underlying22 w
    have HI := Lib.hid hI
    obtain ⟨len, hlen⟩ : ∃ len, bs.length = len := ⟨_, rfl⟩
    rw [hlen] at HI he ⊢
    have HL := Lib.hid hlen
    have hO2 : OwnB (w.alloc (.cells #[] 5)) w.heap.size 5 (.slice (some ⟨w.heap.size, 0, none⟩) 0 0) [] := ⟨World.ownsRow_made w #[] 0 (Nat.le_refl _) (by simp [maxLen]) rfl, by simp⟩
    have hI2 := HI.out.below (hB1 (.cells #[] 5))
    have hlen2 : ([] : List Nat).length + bs.length ≤ 140737488355328 := by rw [List.length_nil]; omega
    have HI2 := Lib.hid hI2
    have HN2 := Lib.hid hlen2
    have HO2 := Lib.hid hO2
    clear hlen hI hO2 hI2 hlen2
    go_enter Tryd.func31, Tryd.ntmps31
    go_wp2_with (at_builtin; refine wpList_append_bytes rfl _ _ _ rfl Tryd.underlying22 hi hz0 hz1 hz2 rfl rfl rfl HO2.out HI2.out HN2.out (by simp) ?next)
    case next =>
      intro v' w' O' G'
      go_wp2
      go_ret
      exact ⟨v', rfl, O', below_append (hB1 _) G' HO2.out (Nat.le_refl _) (by simp)⟩

set_option maxRecDepth 100000 in
set_option maxHeartbeats 2000000 in
/-- A number's four bytes, by the document's own answer. -/
theorem four_calls (n : Nat) (hn : n < 4294967296) (w : World) :
    Calls Tryd.prog 27 #[.int .u32 (n : Nat)] w (Owned w.heap.size w (le4 n)) := by
  obtain ⟨i0, hi, hz0, hz1, hz2⟩ := info_parts info_u8'
  have hpow : ∀ k, k < 4 → (le4 n).take (k + 1) = (le4 n).take k ++ [n / 256 ^ k % 256] := by
    intro k hk
    match k, hk with
    | 0, _ => simp [le4]
    | 1, _ => simp [le4]
    | 2, _ => simp [le4]
    | 3, _ => simp [le4]
  go_enter Tryd.func27, Tryd.ntmps27
  go_wp2
  go_loopw [0, 3, 4] (fun m v i wr => ∃ k : Nat, k ≤ 4 ∧ i = .int .i64 k ∧ m = .int .u32 (n / 256 ^ k : Nat) ∧ OwnB wr w.heap.size 5 v ((le4 n).take k) ∧ Below w.heap.size w wr) (fun _ _ i _ => 4 - (intOf i).toNat)
  case atStart => exact ⟨0, by omega, rfl, by simp, ⟨by simpa [vals] using World.ownsRow_nil w w.heap.size 5 1, by simp⟩, Below.refl _ _⟩
  case round =>
    obtain ⟨k, hk, rfl, rfl, hO, hB⟩ := hrel
    by_cases hlt : k < 4
    · have hs := hpow k hlt
      have hdiv : n / 256 ^ (k + 1) = n / 256 ^ k / 256 := by rw [Nat.pow_succ, Nat.div_div_eq_div_mul]
      have hle : n / 256 ^ k ≤ n := Nat.div_le_self _ _
      obtain ⟨m, hm⟩ : ∃ m, n / 256 ^ k = m := ⟨_, rfl⟩
      rw [hm] at hs hdiv hle
      rw [hm]
      have hB2 : ∀ o, Below w.heap.size w (wr.alloc o) := fun o => hB.alloc hB.size o
      have hl4 : ((le4 n).take k).length ≤ 4 := by rw [List.length_take]; omega
      have HS := Lib.hid hs
      have HD := Lib.hid hdiv
      have HP := Lib.hid hpow
      clear hs hdiv hpow hm
      go_wp2_with (at_builtin; refine wpList_append_bytes rfl _ _ _ rfl Tryd.underlying22 hi hz0 hz1 hz2 rfl rfl rfl (hO.alloc _) (Bytes.lit wr _ _ [m % 256] 1 (by rfl) (by decide) (by simp [vals]) (by simp; omega)) (by simp; omega) (by have := hB.size; simp; omega) ?next)
      case next =>
        intro v' w' O' G'
        go_wp2
        go_roundw
        case rel => exact ⟨k + 1, by omega, by go_num, by rw [HD.out]; simp, by rw [HS.out]; exact O', below_append (hB2 _) G' (hO.alloc _) (Nat.le_refl _) (by have := hB.size; simp; omega)⟩
        case measure => simp [intOf]; omega
    · obtain rfl : k = 4 := by omega
      clear hpow
      go_wp2
      go_ret
      exact ⟨_, rfl, hO, hB⟩

end Go.Proofs.YtmflcpkkeejjpaaDoor.Frame
