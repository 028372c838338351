/-
  The program's own reading of a number.
-/
import Derived.Test.YtffehnojcajhiaaWireItemA
import Derived.Laws.BitsAllLaws
import Derived.Lib.VarintBits
namespace Go.Proofs.Ytffehnojcajhiaa.Wire
open Go Go.RowKit Go.Proofs.Ytffehnojcajhiaa.Law

/-- The reader's block. -/
def Rdr (W : World) (rb : Nat) (B : Value) : Prop := W.heap[rb]? = some (Obj.cells #[B] 82 (0, 0))
theorem Rdr.cells {W : World} {rb : Nat} {B : Value} (h : Rdr W rb B) : W.cell? ⟨rb, 0, none⟩ = some B ∧ W.frozen? ⟨rb, 0, none⟩ = false := by
  unfold Rdr at h
  refine ⟨?_, ?_⟩ <;> simp [World.cell?, World.frozen?, h]
theorem Rdr.set {W : World} {rb : Nat} {B : Value} (h : Rdr W rb B) (v : Value) : Rdr (W.setCell ⟨rb, 0, none⟩ v) rb v := by
  unfold Rdr at h ⊢
  simp [World.setCell, Array.getElem?_modify, h]

/-- What num answers. -/
def NumRead (w : World) (rb n₀ : Nat) : Except Nat (Nat × List Nat) → Ending → World → Prop
  | .ok (m, r), e, W => e = .returned (.tuple #[.int .u64 (m : Nat), .int .i64 0]) ∧ ∃ B, W = w.setCell ⟨rb, 0, none⟩ B ∧ Bytes n₀ w B r
  | .error k, e, W => e = .returned (.tuple #[.int .u64 0, .int .i64 (k : Nat)]) ∧ W = w

theorem low7 (x : Nat) (hx : x < 256) : bits .andNot .u8 (x : Int) 128 = ((x % 128 : Nat) : Int) := by
  have := u8_andNot_nat x 128 hx (by decide)
  rw [show ((128 : Nat) : Int) = 128 from rfl] at this
  rw [this]
  congr 1
  have h : x &&& (255 - 128) = x % 2 ^ 7 := by rw [show 255 - 128 = 2 ^ 7 - 1 by decide, Nat.and_two_pow_sub_one_eq_mod]
  rw [h]

theorem ret_num {k : IntKind} {a b : Int} {v : Value} (h : a = b) : Ending.returned (.tuple #[.int k a, v]) = .returned (.tuple #[.int k b, v]) := by rw [h]
theorem pow_digit (k : Nat) : (2 : Int) ^ (7 * k) = ((128 ^ k : Nat) : Int) := by
  rw [show (128 : Nat) = 2 ^ 7 by decide, ← Nat.pow_mul]
  simp
theorem or_digit (k n x : Nat) (hx : x < 256) (hn : n < 128 ^ k) (h : n + x % 128 * 128 ^ k < 18446744073709551616) :
    bits .or .u64 (n : Int) (IntKind.u64.wrap (IntKind.u64.wrap (bits .andNot .u8 (x : Int) 128) * (2 : Int) ^ (7 * k))) = ((n + x % 128 * 128 ^ k : Nat) : Int) := by
  rw [low7 x hx, pow_digit, IntKind.wrap_u64, IntKind.wrap_u64, show ((x % 128 : Nat) : Int) % 18446744073709551616 = ((x % 128 : Nat) : Int) by omega, ← Int.natCast_mul]
  obtain ⟨y, hy⟩ : ∃ y, x % 128 = y := ⟨_, rfl⟩
  rw [hy] at h ⊢
  obtain ⟨z, hz⟩ : ∃ z, y * 128 ^ k = z := ⟨_, rfl⟩
  rw [hz] at h ⊢
  rw [show ((z : Nat) : Int) % 18446744073709551616 = ((z : Nat) : Int) by omega, u64_or_nat n z (by omega) (by omega)]
  congr 1
  rw [← hz]
  rw [show (128 : Nat) = 2 ^ 7 by decide, ← Nat.pow_mul] at hn ⊢
  rw [Nat.or_comm, Nat.mul_comm, ← Nat.two_pow_add_eq_or_of_lt hn, Nat.add_comm]

set_option maxRecDepth 100000 in
set_option maxHeartbeats 4000000 in
theorem num_calls (rb n₀ : Nat) (B : Value) (bs : List Nat) (hlen0 : bs.length ≤ 65536) (w : World) (hR : Rdr w rb B) (hI : Bytes n₀ w B bs) :
    Calls Try.prog 67 #[.pointer (some ⟨rb, 0, none⟩)] w (NumRead w rb n₀ (rdNum 0 0 bs)) := by
  obtain ⟨A, cap, rfl⟩ := hI.form
  obtain ⟨len, hlen⟩ : ∃ len, bs.length = len := ⟨_, rfl⟩
  obtain ⟨R, hRR⟩ : ∃ R, rdNum 0 0 bs = R := ⟨_, rfl⟩
  have hcap := hI.capOk
  rw [hRR]
  rw [hlen] at hI hlen0 hR hcap
  obtain ⟨r0, z0⟩ := hR.cells
  have HR := Lib.hid hR
  have HI := Lib.hid hI
  have HL := Lib.hid hlen
  have HRR := Lib.hid hRR
  clear hR hI hlen hRR
  go_enter Try.func67, Try.ntmps67
  go_wp2
  go_loopw [4, 12] (fun a i wr => ∃ k n : Nat, i = .int .i64 k ∧ a = .int .u64 (n : Nat) ∧ k ≤ len ∧ k ≤ 9 ∧ n < 128 ^ k ∧ rdNum k n (bs.drop k) = R ∧ w = wr) (fun _ i _ => len - (intOf i).toNat)
  case atStart => exact ⟨0, 0, rfl, rfl, Nat.zero_le _, by omega, by decide, by rw [List.drop_zero, HRR.out], rfl⟩
  case round =>
    obtain ⟨k, n, rfl, rfl, hk, hk9, hnk, h1, rfl⟩ := hrel
    by_cases hlt : k < len
    · obtain ⟨x, hx⟩ : ∃ x, bs[k]? = some x := ⟨_, List.getElem?_eq_getElem (by rw [HL.out]; exact hlt)⟩
      obtain ⟨b, off, rfl, hb, hc⟩ := HI.out.cells (by omega)
      have hck := hc k hlt
      have hxd : bs.getD k 0 = x := by simp [List.getD, hx]
      have hx256 : x < 256 := HI.out.lt x (List.mem_of_getElem? hx)
      rw [hxd] at hck
      have hd : bs.drop k = x :: bs.drop (k + 1) := drop_get hx
      rw [hd, rdNum] at h1
      have hkI : (k : Int) ≤ 9 := by omega
      have hxI : (x : Int) < 256 := by omega
      by_cases hbad : (k = 9 ∧ 1 < x) ∨ (0 < k ∧ x = 0)
      · rw [if_pos hbad] at h1
        have H1 := Lib.hid h1
        have HNK := Lib.hid hnk
        clear hc hxd h1 hd hnk hx
        rcases hbad with ⟨rfl, hx1⟩ | ⟨hk0, rfl⟩
        · have hx1I : 1 < (x : Int) := by omega
          have hx1J : ¬ (x : Int) = 0 := by omega
          go_wp2
          go_ret2
          obtain rfl := H1.out
          exact ⟨rfl, rfl⟩
        · have hk0I : 0 < (k : Int) := by omega
          go_wp2
          go_ret2
          obtain rfl := H1.out
          exact ⟨rfl, rfl⟩
      · rw [if_neg hbad] at h1
        have hb9 : k = 9 → x ≤ 1 := fun h9 => by
          rcases Nat.lt_or_ge 1 x with h2 | h2
          · exact absurd (.inl ⟨h9, h2⟩) hbad
          · exact h2
        have hdb := digit_bound (k := k) (x := x) (n := n) hk9 hb9 hnk
        have hor := or_digit k n x hx256 hnk hdb.1
        have hb0 : 0 < k → ¬ x = 0 := fun h e => hbad (.inr ⟨h, e⟩)
        obtain ⟨m, hm⟩ : ∃ m, n + x % 128 * 128 ^ k = m := ⟨_, rfl⟩
        rw [hm] at hdb h1 hor
        have HDB := Lib.hid hdb
        have H1 := Lib.hid h1
        have HOR := Lib.hid hor
        have HM := Lib.hid hm
        clear hbad hdb h1 hc hxd hd hnk hor hm hx
        by_cases hsmall : x < 128
        · have hsI : (x : Int) < 128 := by omega
          obtain ⟨B1, hrun, hB1⟩ := run_behind HI.out .i64 (show k + 1 ≤ len by omega)
          obtain ⟨A1, cap1, rfl⟩ := hB1.form
          obtain ⟨l1, hl1⟩ : ∃ l1, (bs.drop (k + 1)).length = l1 := ⟨_, rfl⟩
          rw [hl1] at hB1 hrun
          have hrun1 : ∀ w', (Instr.sliceAt 48 (.slice (some ⟨b, off, none⟩) len cap) (some (.int .i64 ((k : Int) + 1))) none none).run Try.prog w' = .ok (.slice A1 l1 cap1) w' := fun w' => by simpa using hrun w'
          have HRUN := Lib.hid hrun1
          have HB1 := Lib.hid hB1
          have hRR : R = .ok (m, bs.drop (k + 1)) := by rw [← H1.out, if_pos hsmall]
          have HRR := Lib.hid hRR
          clear hRR hrun hrun1 hB1 hl1
          by_cases hk0 : 0 < k
          · have hk0I : 0 < (k : Int) := by omega
            have hx0I : ((x : Int) == 0) = false := by have := hb0 hk0; rw [beq_eq_false_iff_ne]; omega
            by_cases h9 : k = 9
            · have hx1 := hb9 h9
              have hx1I : (x : Int) ≤ 1 := by omega
              have h9I : ((k : Int) == 9) = true := by rw [beq_iff_eq]; omega
              clear hb9 hb0 h9
              go_wp2_with (refine wpList_slice_ran (o := ⟨some 48, _, _, _, _, _⟩) rfl _ _ _ _ _ rfl rfl rfl rfl rfl (HRUN.out _) ?_)
              go_ret2
              rw [HRR.out]
              exact ⟨ret_num HOR.out, _, rfl, HB1.out⟩
            · have h9I : ((k : Int) == 9) = false := by rw [beq_eq_false_iff_ne]; omega
              clear hb9 hb0 h9
              go_wp2_with (refine wpList_slice_ran (o := ⟨some 48, _, _, _, _, _⟩) rfl _ _ _ _ _ rfl rfl rfl rfl rfl (HRUN.out _) ?_)
              go_ret2
              rw [HRR.out]
              exact ⟨ret_num HOR.out, _, rfl, HB1.out⟩
          · have hk0I : ¬ 0 < (k : Int) := by omega
            have h9I : ((k : Int) == 9) = false := by rw [beq_eq_false_iff_ne]; omega
            clear hb9 hb0
            go_wp2_with (refine wpList_slice_ran (o := ⟨some 48, _, _, _, _, _⟩) rfl _ _ _ _ _ rfl rfl rfl rfl rfl (HRUN.out _) ?_)
            go_ret2
            rw [HRR.out]
            exact ⟨ret_num HOR.out, _, rfl, HB1.out⟩
        · have hsI : ¬ (x : Int) < 128 := by omega
          have hx0 : ((x : Int) == 0) = false := by rw [beq_eq_false_iff_ne]; omega
          have hk8 : ¬ k = 9 := fun h9 => by have := hb9 h9; omega
          have hk8I : ((k : Int) == 9) = false := by rw [beq_eq_false_iff_ne]; omega
          clear hb9 hb0
          by_cases hk0 : 0 < k
          all_goals
            go_wp2
            go_roundw
            case rel =>
              refine ⟨k + 1, m, by go_num, by rw [← HOR.out], by omega, by omega, HDB.out.2 (by omega), ?_, trivial⟩
              have := H1.out; rw [if_neg hsmall] at this; exact this
            case measure => simp [intOf]; omega
    · obtain rfl : k = len := by omega
      rw [List.drop_of_length_le (by rw [HL.out]; exact Nat.le_refl _), rdNum] at h1
      have H1 := Lib.hid h1
      clear h1
      go_wp2
      go_ret2
      obtain rfl := H1.out
      exact ⟨rfl, rfl⟩

end Go.Proofs.Ytffehnojcajhiaa.Wire
