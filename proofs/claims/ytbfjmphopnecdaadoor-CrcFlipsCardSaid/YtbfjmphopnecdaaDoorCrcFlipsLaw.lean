/-
  The walk of the law CrcFlips: whatever the bytes, the place and the word, it returns true and nothing that lay has turned.
-/
import Derived.Test.YtbfjmphopnecdaaDoorCrcExtendsLaw
import Derived.Test.YtbfjmphopnecdaaDoorCrcFlip
import Derived.IntWalk
namespace Go.Proofs.YtbfjmphopnecdaaDoor.Crc
open Go.RowKit Go.Proofs.YtbfjmphopnecdaaDoor.Law

theorem place (at0 : Int) (len : Nat) (h0 : 0 < len) (h1 : len ≤ 140737488351232) : ∃ s : Nat, s < 8 * len ∧ wrap64 ((IntKind.u64.wrap at0).tmod (8 * (len : Int))) = (s : Int) := by
  have h2 : 0 ≤ IntKind.u64.wrap at0 := wrap_u64_nonneg at0
  have h3 : (IntKind.u64.wrap at0).tmod (8 * (len : Int)) = IntKind.u64.wrap at0 % (8 * (len : Int)) := Int.tmod_eq_emod_of_nonneg h2
  have h4 : 0 ≤ IntKind.u64.wrap at0 % (8 * (len : Int)) := Int.emod_nonneg _ (by omega)
  have h5 : IntKind.u64.wrap at0 % (8 * (len : Int)) < 8 * (len : Int) := Int.emod_lt_of_pos _ (by omega)
  refine ⟨(IntKind.u64.wrap at0 % (8 * (len : Int))).toNat, by omega, ?_⟩
  rw [h3, IntWalk.wrap64_in _ (by omega)]
  omega

set_option maxRecDepth 100000 in
set_option maxHeartbeats 1000000 in
theorem crcFlips_law (sv : Value) (bs : List Nat) (hreach : bs.length ≤ 140737488351232) (at0 : Int) (t : Nat) (ht : t < 4294967296) (w : World) (hT : Tab w) (hI : Bytes w.heap.size w sv bs) :
    Calls Tryd.prog 5 #[sv, .int .i64 at0, .int .u32 (t : Nat)] w fun e W' => e = .returned (.bool true) ∧ Below w.heap.size w W' := by
  obtain ⟨i0, hi, hz0, hz1, hz2⟩ := info_parts info_u8
  obtain ⟨A, cap, rfl⟩ := hI.form
  obtain ⟨len, hlen⟩ : ∃ len, bs.length = len := ⟨_, rfl⟩
  rw [hlen] at hreach hI ⊢
  have HI := Lib.hid hI
  have HL := Lib.hid hlen
  have HT := Lib.hid hT
  clear hI hlen hT
  by_cases hpos : len = 0
  · subst hpos
    go_enter Tryd.func5, Tryd.ntmps5
    go_wp2_with fail
    refine (known_calls _ HT.out).mono ?_
    rintro e w1 ⟨rfl, hB1⟩
    go_wp2
    go_ret
    exact ⟨rfl, hB1⟩
  by_cases hturn : t = 0
  · subst hturn
    have hl0 : ((len : Int) == 0) = false := by rw [beq_eq_false_iff_ne]; omega
    go_enter Tryd.func5, Tryd.ntmps5
    go_wp2_with fail
    refine (known_calls _ HT.out).mono ?_
    rintro e w1 ⟨rfl, hB1⟩
    go_wp2
    go_ret
    exact ⟨rfl, hB1⟩
  have hl0 : ((len : Int) == 0) = false := by rw [beq_eq_false_iff_ne]; omega
  have ht0 : ((t : Int) == 0) = false := by rw [beq_eq_false_iff_ne]; omega
  obtain ⟨s, hsl, hs⟩ := place at0 len (by omega) (by omega)
  go_enter Tryd.func5, Tryd.ntmps5
  go_wp2_with fail
  refine (known_calls _ HT.out).mono ?_
  rintro e w1 ⟨rfl, hB1⟩
  have hI1 := HI.out.on hB1
  have hT1 := HT.out.below hB1
  have hB2 : Below w1.heap.size w1 (w1.alloc (.cells #[] 5)) := (Below.refl _ w1).alloc (Nat.le_refl _) _
  have hO2 : OwnB (w1.alloc (.cells #[] 5)) w1.heap.size 5 (.slice (some ⟨w1.heap.size, 0, none⟩) 0 0) [] := ⟨World.ownsRow_made w1 #[] 0 (Nat.le_refl _) (by simp [maxLen]) rfl, by simp⟩
  obtain ⟨v3, w3, hrun3, hO3, hg3, _⟩ := run_append_bytes (P := Tryd.prog) (w1.alloc (.cells #[] 5)) 23 Tryd.underlying23 hi hz0 hz1 hz2 rfl hO2 (hI1.on hB2) (by rw [HL.out]; simp; omega) (by simp)
  rw [List.nil_append] at hO3
  have hB3 := below_append hB2 hg3 hO2 (Nat.le_refl _) hB2.size
  obtain ⟨g, c3, rfl, hg1, hg2⟩ := hO3.form (by rw [HL.out]; omega)
  rw [HL.out] at hO3 hrun3
  have R3 := Lib.hid hrun3
  have O3 := Lib.hid hO3
  clear hrun3 hO3 hg3 hO2 hB2
  go_wp2_with (at_builtin; refine wpList_append_ran rfl _ _ _ rfl rfl rfl R3.out ?_)
  rw [hs]
  clear hs R3
  go_loopw [9, 10] (fun d i wr => ∃ k : Nat, k ≤ 32 ∧ s + k ≤ 8 * len ∧ i = .int .i64 k ∧ d = .bool (decide (t % 2 ^ k ≠ 0)) ∧ OwnB wr w1.heap.size 5 (.slice (some ⟨g, 0, none⟩) len c3) (flipN bs s t k) ∧ Below w1.heap.size w1 wr) (fun _ i _ => 32 - (intOf i).toNat)
  case atStart => exact ⟨0, by omega, by omega, rfl, by simp [Nat.mod_one], O3.out, hB3⟩
  case round =>
    obtain ⟨k, hk, hsk, rfl, rfl, hO, hBr⟩ := hrel
    obtain ⟨D, hD⟩ : ∃ D, decide (t % 2 ^ k ≠ 0) = D := ⟨_, rfl⟩
    rw [hD]
    by_cases hgo : k < 32 ∧ s + k < 8 * len
    · obtain ⟨hk32, hkb⟩ := hgo
      have hj : (s + k) / 8 < len := by omega
      have hc := hO.cell (by rw [flipN_length]; exact HL.out) ((s + k) / 8) hj
      obtain ⟨hcell, hfrz⟩ := hc
      have hx8 : (flipN bs s t k).getD ((s + k) / 8) 0 < 256 := getD_lt hO.2 _
      have hnext : flipN bs s t (k + 1) = if t / 2 ^ k % 2 = 1 then (flipN bs s t k).set ((s + k) / 8) ((flipN bs s t k).getD ((s + k) / 8) 0 ^^^ 2 ^ ((s + k) % 8)) else flipN bs s t k := rfl
      have hmod : t % 2 ^ (k + 1) = t % 2 ^ k + 2 ^ k * (t / 2 ^ k % 2) := Nat.mod_pow_succ
      obtain ⟨x, hx⟩ : ∃ x, (flipN bs s t k).getD ((s + k) / 8) 0 = x := ⟨_, rfl⟩
      rw [hx] at hcell hx8 hnext
      obtain ⟨j, hj'⟩ : ∃ j, (s + k) / 8 = j := ⟨_, rfl⟩
      rw [hj'] at hcell hfrz hnext hj
      obtain ⟨q, hq⟩ : ∃ q, (s + k) % 8 = q := ⟨_, rfl⟩
      obtain ⟨d, hd⟩ : ∃ d, t / 2 ^ k = d := ⟨_, rfl⟩
      have hd32 : d < 4294967296 := hd ▸ Nat.lt_of_le_of_lt (Nat.div_le_self _ _) ht
      rw [hq, hd] at hnext
      rw [hd] at hmod
      have hq8 : q < 8 := by omega
      obtain ⟨y, hy⟩ : ∃ y, 2 ^ q = y := ⟨_, rfl⟩
      have hy8 : y < 256 := hy ▸ Nat.lt_of_le_of_lt (Nat.pow_le_pow_right (n := 2) (by decide) (show q ≤ 7 by omega)) (by decide)
      obtain ⟨z, hz⟩ : ∃ z, x ^^^ y = z := ⟨_, rfl⟩
      have hz8 : z < 256 := hz ▸ xor_lt8 hx8 hy8
      rw [hy, hz] at hnext
      have hshr : (t : Int) / 2 ^ k = (d : Int) := by rw [← hd]; simp
      have hdiv : ((s : Int) + (k : Int)) / 8 = (j : Int) := by omega
      have hrem : ((s : Int) + (k : Int)) % 8 = (q : Int) := by omega
      have hxor : bits .xor .u8 (x : Int) (y : Int) = (z : Int) := by rw [u8_xor_nat _ _ hx8 hy8, hz]
      have hshl : IntKind.u8.wrap (2 ^ q) = (y : Int) := by
        rw [IntKind.wrap_u8']; have : ((2 : Int) ^ q) = (y : Int) := by rw [← hy]; simp
        rw [this]; omega
      have hkI : (k : Int) < 32 := by omega
      have hskI : (s : Int) + (k : Int) < 8 * (len : Int) := by omega
      have hsk2 : (s : Int) + (k : Int) ≤ 9223372036854775807 := by omega
      by_cases hbit : d % 2 = 1
      · have hand : bits .and .u32 (d : Int) 1 = 1 := by
          rw [show (1 : Int) = ((1 : Nat) : Int) from rfl, u32_and_nat d 1 hd32 (by omega), show d &&& 1 = d % 2 from Nat.and_two_pow_sub_one_eq_mod d 1, hbit]
        rw [if_pos hbit] at hnext
        rw [hbit] at hmod
        have hst := hO.store (by rw [flipN_length]; exact HL.out) j z hz8
        have HN := Lib.hid hnext
        have HM := Lib.hid hmod
        have HST := Lib.hid hst
        clear hnext hmod hst hD hd hy hz hq hj' hx
        go_wp2
        go_roundw
        case rel => exact ⟨k + 1, by omega, by omega, by go_num, by rw [HM.out]; have := Nat.two_pow_pos k; rw [decide_eq_true (by omega)], by rw [HN.out]; exact HST.out, hBr.setCell (p := ⟨g, j, none⟩) hg1 _⟩
        case measure => simp [intOf]; omega
      · have hd0 : d % 2 = 0 := by omega
        have hand : bits .and .u32 (d : Int) 1 = 0 := by
          rw [show (1 : Int) = ((1 : Nat) : Int) from rfl, u32_and_nat d 1 hd32 (by omega), show d &&& 1 = d % 2 from Nat.and_two_pow_sub_one_eq_mod d 1, hd0]; rfl
        rw [if_neg hbit] at hnext
        rw [hd0, Nat.mul_zero, Nat.add_zero] at hmod
        have HN := Lib.hid hnext
        have HM := Lib.hid hmod
        have HD := Lib.hid hD
        clear hnext hmod hD hd hy hz hq hj' hx hd0 hbit
        go_wp2
        go_roundw
        case rel => exact ⟨k + 1, by omega, by omega, by go_num, by rw [HM.out, Nat.add_zero, HD.out], by rw [HN.out]; exact hO, hBr⟩
        case measure => simp [intOf]; omega
    · have hdf := sum_differ (s := s) (t := t) (m := k) (flipN_length bs s t k) HI.out.lt hO.2 (flipN_differ bs s t k (by rw [HL.out]; omega)) hk (by rw [HL.out]; omega)
      have hl2 : (flipN bs s t k).length ≤ 140737488351232 := by rw [flipN_length, HL.out]; omega
      have hl1 : bs.length ≤ 140737488351232 := by rw [HL.out]; omega
      have hM := hO.bytes
      have hIr := hI1.on hBr
      have hTr := hT1.below hBr
      obtain ⟨X, hX⟩ : ∃ X, extN 0 bs = X := ⟨_, rfl⟩
      obtain ⟨Y, hY⟩ : ∃ Y, extN 0 (flipN bs s t k) = Y := ⟨_, rfl⟩
      have c1 := sum_calls _ bs hl1 wr hTr hIr
      have c2 := fun (W : World) (hB : Below wr.heap.size wr W) => sum_calls _ (flipN bs s t k) hl2 W (hTr.below hB) (hM.on hB)
      rw [hX] at hdf c1
      rw [hY] at hdf c2
      have hfin : ((!((X : Int) == (Y : Int))) == D) = true := by
        rw [← hD]
        by_cases hXY : X = Y
        · have h0 := hdf.1 hXY
          rw [h0, hXY]; simp
        · have h0 : ¬ t % 2 ^ k = 0 := fun h => hXY (hdf.2 h)
          have h1 : ((X : Int) == (Y : Int)) = false := by rw [beq_eq_false_iff_ne]; omega
          rw [h1]; simp [h0]
      have hfin2 : (((X : Int) != (Y : Int)) == D) = true := hfin
      have C1 := Lib.hid c1
      have C2 := Lib.hid c2
      have HF := Lib.hid hfin2
      have hBw := hB1.trans (hBr.mono hB1.size)
      have HB := Lib.hid hBw
      clear c1 c2 hX hY hdf hD hfin hfin2 hIr hTr hM hl1 hl2 hBw hO
      by_cases hk32 : k < 32
      · have hge : ¬ ((s : Int) + (k : Int) < 8 * (len : Int)) := by omega
        have hgeD : decide ((s : Int) + (k : Int) < 8 * (len : Int)) = false := decide_eq_false hge
        have hsk2 : (s : Int) + (k : Int) ≤ 9223372036854775807 := by omega
        clear hgo
        go_wp2_with fail
        refine C1.out.mono ?_
        rintro e w5 ⟨rfl, hB5⟩
        go_wp2_with fail
        refine (C2.out _ hB5).mono ?_
        rintro e w6 ⟨rfl, hB6⟩
        have hf := HF.out
        go_wp2
        go_ret
        exact ⟨rfl, HB.out.trans ((hB5.trans (hB6.mono hB5.size)).mono HB.out.size)⟩
      · obtain rfl : k = 32 := by omega
        clear hgo hk32
        go_wp2_with fail
        refine C1.out.mono ?_
        rintro e w5 ⟨rfl, hB5⟩
        go_wp2_with fail
        refine (C2.out _ hB5).mono ?_
        rintro e w6 ⟨rfl, hB6⟩
        have hf := HF.out
        go_wp2
        go_ret
        exact ⟨rfl, HB.out.trans ((hB5.trans (hB6.mono hB5.size)).mono HB.out.size)⟩

end Go.Proofs.YtbfjmphopnecdaaDoor.Crc
