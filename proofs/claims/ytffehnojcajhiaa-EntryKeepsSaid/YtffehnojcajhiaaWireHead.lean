/-
  The program's own reading of a head and of a text.
-/
import Derived.Test.YtffehnojcajhiaaWireNum
import Derived.Test.YtffehnojcajhiaaWireStack
import Derived.Lib.Zigzag
namespace Go.Proofs.Ytffehnojcajhiaa.Wire
open Go Go.RowKit Go.Proofs.Ytffehnojcajhiaa.Law

set_option maxRecDepth 100000 in
set_option maxHeartbeats 2000000 in
theorem signed_calls (u : Nat) (hu : u < 18446744073709551616) (w : World) :
    Calls Try.prog 58 #[.int .u64 (u : Nat)] w fun e W => e = .returned (.int .i64 (unzig u)) ∧ w = W := by
  have h1 := Lib.u64_and1 (u : Int) (by omega) (by omega)
  by_cases hodd : u % 2 = 1
  · have hv : wrap64 (bits .xor .u64 IntKind.u64.max ((u : Int) / 2)) = unzig u := by
      unfold unzig
      rw [if_pos hodd, show (u : Int) / 2 = ((u / 2 : Nat) : Int) by omega, show IntKind.u64.max = ((18446744073709551615 : Nat) : Int) from rfl, u64_xor_nat _ _ (by omega) (by omega)]
      have := Lib.xor_ones64 (u / 2) (by omega)
      rw [show 18446744073709551615 = 2 ^ 64 - 1 by decide, this]
      unfold wrap64
      omega
    have ho : (u : Int) % 2 = 1 := by omega
    have HV := Lib.hid hv
    clear hv
    go_enter Try.func58, Try.ntmps58
    go_wp2
    go_ret
    exact ⟨ret_int HV.out, rfl⟩
  · have hv : unzig u = ((u / 2 : Nat) : Int) := by unfold unzig; rw [if_neg hodd]
    have ho : (u : Int) % 2 = 0 := by omega
    rw [hv]
    clear hv
    go_enter Try.func58, Try.ntmps58
    go_wp2
    go_ret
    exact ⟨ret_int (by omega), rfl⟩

/-- What head answers. -/
def HeadRead (w : World) (rb n₀ : Nat) : Except Nat (Nat × Nat × List Nat) → Ending → World → Prop
  | .ok (k, m, r), e, W => e = .returned (.tuple #[.int .i64 (k : Nat), .int .u64 (m : Nat), .int .i64 0]) ∧ ∃ B, Rdr W rb B ∧ Bytes n₀ W B r ∧ w.grownBy W (some rb) ∧ w.heap.size = W.heap.size
  | .error k, e, W => e = .returned (.tuple #[.int .i64 0, .int .u64 0, .int .i64 (k : Nat)]) ∧ k ≠ 0 ∧ w.grownBy W (some rb)

theorem byte_kind (x : Nat) : ((x : Nat) : Int) = 0 ∨ ((x : Nat) : Int) = 1 ∨ ((x : Nat) : Int) = 2 ∨ 2 < x := by omega

set_option maxRecDepth 100000 in
set_option maxHeartbeats 4000000 in
theorem head_calls (rb n₀ : Nat) (B : Value) (bs : List Nat) (hlen0 : bs.length ≤ 65536) (w : World) (hR : Rdr w rb B) (hI : Bytes n₀ w B bs) (hn : n₀ ≤ rb) :
    Calls Try.prog 57 #[.pointer (some ⟨rb, 0, none⟩)] w (HeadRead w rb n₀ (rdHead bs)) := by
  obtain ⟨A, cap, rfl⟩ := hI.form
  obtain ⟨len, hlen⟩ : ∃ len, bs.length = len := ⟨_, rfl⟩
  obtain ⟨R, hRR⟩ : ∃ R, rdHead bs = R := ⟨_, rfl⟩
  rw [hRR]
  rw [hlen] at hI hlen0 hR
  obtain ⟨r0, z0⟩ := hR.cells
  have HR := Lib.hid hR
  have HI := Lib.hid hI
  have HL := Lib.hid hlen
  clear hR hI hlen
  match bs, hRR with
  | [], hRR =>
    obtain rfl : len = 0 := by simpa using HL.out.symm
    have HRR := Lib.hid hRR
    clear hRR
    go_enter Try.func57, Try.ntmps57
    go_wp2_with fail
    go_ret3
    obtain rfl := HRR.out
    exact ⟨rfl, by decide, grown_refl _ _⟩
  | x :: bs, hRR =>
    have hl0 : ¬ (len : Int) = 0 := by have := HL.out; simp at this; omega
    have hlp : 0 < len := by have := HL.out; simp at this; omega
    obtain ⟨b, off, rfl, hb, hc⟩ := HI.out.cells hlp
    have hc0 := hc 0 hlp
    have hx256 : x < 256 := HI.out.lt x (by simp)
    rw [Nat.add_zero, show (x :: bs).getD 0 0 = x from rfl] at hc0
    rw [rdHead] at hRR
    clear hc
    have hne : ¬ b = rb := by omega
    have hlpI : 0 < (len : Int) := by omega
    by_cases hbig : 2 < x
    · rw [if_pos hbig] at hRR
      have HRR := Lib.hid hRR
      have k0 : ((x : Int) != 0) = true := by rw [bne_iff_ne]; omega
      have k1 : ((x : Int) != 1) = true := by rw [bne_iff_ne]; omega
      have k2 : ((x : Int) != 2) = true := by rw [bne_iff_ne]; omega
      clear hRR
      go_enter Try.func57, Try.ntmps57
      go_wp2_with fail
      go_ret3
      obtain rfl := HRR.out
      exact ⟨rfl, by decide, grown_refl _ _⟩
    · rw [if_neg hbig] at hRR
      obtain ⟨B1, hrun, hB1⟩ := run_behind HI.out .i64 (show 1 ≤ len by omega)
      have hrun1 : ∀ w', (Instr.sliceAt 48 (.slice (some ⟨b, off, none⟩) len cap) (some (.int .i64 1)) none none).run Try.prog w' = .ok B1 w' := fun w' => by simpa using hrun w'
      replace hB1 : Bytes n₀ w B1 bs := hB1
      have cN := num_calls rb n₀ B1 bs (by have := HL.out; simp at this; omega) (w.setCell ⟨rb, 0, none⟩ B1) (HR.out.set B1) (Bytes.below ((Below.refl n₀ w).setCell (p := ⟨rb, 0, none⟩) hn _) hB1)
      obtain ⟨RN, hRN⟩ : ∃ RN, rdNum 0 0 bs = RN := ⟨_, rfl⟩
      rw [hRN] at hRR cN
      obtain ⟨A1, cap1, rfl⟩ := hB1.form
      have HRUN := Lib.hid hrun1
      have HRR := Lib.hid hRR
      have HRN := Lib.hid hRN
      have HB1 := Lib.hid hB1
      have CN := Lib.hid cN
      have hG1 := Lib.hid (grown_set (i := 0) (grown_refl w (some rb)) (.slice A1 bs.length cap1))
      have hrd := Lib.hid (HR.out.set (.slice A1 bs.length cap1))
      clear hrun hrun1 hRR hRN hB1 cN
      have hcase : ((((x : Int) != 0) = false) ∧ x = 0) ∨ (((x : Int) != 0) = true ∧ (((x : Int) != 1) = false) ∧ x ≠ 0) ∨ (((x : Int) != 0) = true ∧ ((x : Int) != 1) = true ∧ (((x : Int) != 2) = false) ∧ x ≠ 0) := by
        rcases (show x = 0 ∨ x = 1 ∨ x = 2 by omega) with rfl | rfl | rfl <;> simp
      rcases hcase with ⟨k0, hx0⟩ | ⟨k0, k1, hx0⟩ | ⟨k0, k1, k2, hx0⟩
      all_goals
        have HX0 := Lib.hid hx0
        clear hx0
        go_enter Try.func57, Try.ntmps57
        go_wp2_with (refine wpList_slice_ran (o := ⟨some 36, _, _, _, _, _⟩) rfl _ _ _ _ _ rfl rfl rfl rfl rfl (HRUN.out _) ?_)
        refine CN.out.mono ?_
        clear CN
        rintro e W hN
        cases RN with
        | error k =>
          obtain ⟨rfl, rfl⟩ := hN
          have hkne : ¬ (k : Int) = 0 := by have := rdNum_err _ _ _ _ HRN.out; omega
          go_wp2_with fail
          go_ret3
          obtain rfl := HRR.out
          exact ⟨rfl, by omega, hG1.out⟩
        | ok q =>
          obtain ⟨m, r⟩ := q
          obtain ⟨rfl, B2, rfl, hB2⟩ := hN
          obtain ⟨A2, cap2, rfl⟩ := hB2.form
          have hfin : ∃ B, Rdr ((w.setCell ⟨rb, 0, none⟩ (.slice A1 bs.length cap1)).setCell ⟨rb, 0, none⟩ (.slice A2 r.length cap2)) rb B ∧ Bytes n₀ ((w.setCell ⟨rb, 0, none⟩ (.slice A1 bs.length cap1)).setCell ⟨rb, 0, none⟩ (.slice A2 r.length cap2)) B r ∧
              w.grownBy ((w.setCell ⟨rb, 0, none⟩ (.slice A1 bs.length cap1)).setCell ⟨rb, 0, none⟩ (.slice A2 r.length cap2)) (some rb) ∧ w.heap.size = ((w.setCell ⟨rb, 0, none⟩ (.slice A1 bs.length cap1)).setCell ⟨rb, 0, none⟩ (.slice A2 r.length cap2)).heap.size :=
            ⟨_, hrd.out.set _, Bytes.below ((Below.refl n₀ _).setCell (p := ⟨rb, 0, none⟩) hn _) hB2, grown_set (i := 0) hG1.out _, by simp [World.setCell]⟩
          have HFIN := Lib.hid hfin
          clear hB2 hfin
          by_cases hbn : 9223372036854775807 < m
          · have hbI : decide ((9223372036854775807 : Int) < (m : Int)) = true := by simp only [decide_eq_true_eq]; omega
            have HBN := Lib.hid hbn
            clear hbn
            go_wp2_with fail
            go_ret3
            first
            | (have hRR : R = .error 3 := by rw [← HRR.out]; simp [HX0.out, HBN.out]
               rw [hRR]
               obtain ⟨B, _, _, h3, _⟩ := HFIN.out
               exact ⟨rfl, by decide, h3⟩)
            | (have hRR : R = .ok (x, m, r) := by rw [← HRR.out]; simp [HX0.out]
               rw [hRR]
               exact ⟨rfl, HFIN.out⟩)
          · have hbI : decide ((9223372036854775807 : Int) < (m : Int)) = false := by simp only [decide_eq_false_iff_not]; omega
            have HBN := Lib.hid hbn
            clear hbn
            go_wp2_with fail
            go_ret3
            have hRR : R = .ok (x, m, r) := by rw [← HRR.out]; simp [HBN.out]
            rw [hRR]
            exact ⟨rfl, HFIN.out⟩

/-- What text answers. -/
def TextRead (w : World) (rb n₀ m : Nat) (bs : List Nat) (e : Ending) (W : World) : Prop :=
  e = .returned (.tuple #[.string (str (bs.take m)), .int .i64 0]) ∧ w.grownBy W (some rb) ∧ w.heap.size = W.heap.size ∧ ∃ B', Rdr W rb B' ∧ Bytes n₀ W B' (bs.drop m)

set_option maxRecDepth 100000 in
set_option maxHeartbeats 4000000 in
theorem text_short (rb n₀ m : Nat) (B : Value) (bs : List Nat) (hlen0 : bs.length ≤ 65536) (w : World) (hR : Rdr w rb B) (hI : Bytes n₀ w B bs) (hs : bs.length < m) :
    Calls Try.prog 59 #[.pointer (some ⟨rb, 0, none⟩), .int .u64 (m : Nat)] w fun e W => e = .returned (.tuple #[.string ⟨#[]⟩, .int .i64 5]) ∧ w = W := by
  obtain ⟨A, cap, rfl⟩ := hI.form
  obtain ⟨len, hlen⟩ : ∃ len, bs.length = len := ⟨_, rfl⟩
  rw [hlen] at hR hlen0 hs
  obtain ⟨r0, z0⟩ := hR.cells
  have hsI : (len : Int) < (m : Int) := by omega
  clear hI hR hlen hs
  go_enter Try.func59, Try.ntmps59
  go_wp2
  go_ret2
  exact ⟨rfl, rfl⟩

set_option maxRecDepth 100000 in
set_option maxHeartbeats 4000000 in
theorem text_long (rb n₀ m : Nat) (B : Value) (bs : List Nat) (hlen0 : bs.length ≤ 65536) (w : World) (hR : Rdr w rb B) (hI : Bytes n₀ w B bs) (hn : n₀ ≤ rb) (hs : m ≤ bs.length) :
    Calls Try.prog 59 #[.pointer (some ⟨rb, 0, none⟩), .int .u64 (m : Nat)] w (TextRead w rb n₀ m bs) := by
  obtain ⟨A, cap, rfl⟩ := hI.form
  obtain ⟨len, hlen⟩ : ∃ len, bs.length = len := ⟨_, rfl⟩
  rw [hlen] at hR hlen0 hs hI
  obtain ⟨r0, z0⟩ := hR.cells
  obtain ⟨B1, hrun, hB1⟩ := run_behind hI .u64 hs
  obtain ⟨A1, cap1, rfl⟩ := hB1.form
  obtain ⟨l1, hl1⟩ : ∃ l1, (bs.drop m).length = l1 := ⟨_, rfl⟩
  rw [hl1] at hrun hB1
  obtain ⟨B2, hrun2, hB2⟩ := run_ahead hI .u64 hs
  have c1 := fun w' (h : Bytes n₀ w' B2 (bs.take m)) => run_string_bytes (P := Try.prog) w' Try.underlying48 Try.underlying5 Try.underlying9 h
  have c2 := c1 w hB2
  obtain ⟨A2, cap2, rfl⟩ := hB2.form
  obtain ⟨l2, hl2⟩ : ∃ l2, (bs.take m).length = l2 := ⟨_, rfl⟩
  rw [hl2] at hrun2 c2
  have hsI : ¬ (len : Int) < (m : Int) := by omega
  have HRUN := Lib.hid hrun
  have HRUN2 := Lib.hid hrun2
  have HB1 := Lib.hid hB1
  have HR := Lib.hid hR
  clear hI hR hlen hs hrun hrun2 hB1 hB2 c1 hl1 hl2
  go_enter Try.func59, Try.ntmps59
  go_wp2_with (first
    | refine wpList_slice_ran (o := ⟨some 20, _, _, _, _, _⟩) rfl _ _ _ _ _ rfl rfl rfl rfl rfl (HRUN2.out _) ?_
    | refine wpList_slice_ran (o := ⟨some 28, _, _, _, _, _⟩) rfl _ _ _ _ _ rfl rfl rfl rfl rfl (HRUN.out _) ?_)
  go_ret2
  exact ⟨rfl, grown_set (i := 0) (grown_refl _ _) _, by simp [World.setCell], _, HR.out.set _, Bytes.below ((Below.refl n₀ _).setCell (p := ⟨rb, 0, none⟩) hn _) HB1.out⟩

end Go.Proofs.Ytffehnojcajhiaa.Wire
