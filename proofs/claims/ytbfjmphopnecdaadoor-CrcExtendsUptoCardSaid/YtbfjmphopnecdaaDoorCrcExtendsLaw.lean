/-
  The walk of the law CrcExtends: two rows of bytes that are together small enough to be put one behind the other: it returns true and nothing that lay has turned.
-/
import Derived.Test.YtbfjmphopnecdaaDoorCrcKnown
import Derived.Test.YtbfjmphopnecdaaDoorSame
namespace Go.Proofs.YtbfjmphopnecdaaDoor.Crc
open Go.RowKit Go.Proofs.YtbfjmphopnecdaaDoor.Law

set_option maxRecDepth 100000 in
set_option maxHeartbeats 1000000 in
theorem crcExtends_law (sa sb : Value) (xs bs : List Nat) (ha : xs.length ≤ 1048576) (hb : bs.length ≤ 1048576) (w : World) (hT : Tab w) (hA : Bytes w.heap.size w sa xs) (hI : Bytes w.heap.size w sb bs) :
    Calls Tryd.prog 4 #[sa, sb] w fun e W' => e = .returned (.bool true) ∧ Below w.heap.size w W' := by
  obtain ⟨i0, hi, hz0, hz1, hz2⟩ := info_parts info_u8
  obtain ⟨X, hX⟩ : ∃ X, extN 0 xs = X := ⟨_, rfl⟩
  have hXlt : X < 4294967296 := hX ▸ extN_lt 0 xs (by decide)
  obtain ⟨Y, hY⟩ : ∃ Y, extN X bs = Y := ⟨_, rfl⟩
  have hXY : extN 0 (xs ++ bs) = Y := by rw [extN_append, hX, hY]
  go_enter Tryd.func4, Tryd.ntmps4
  go_wp2_with fail
  refine (known_calls _ hT).mono ?_
  rintro e w1 ⟨rfl, hB1⟩
  have hT1 := hT.below hB1
  have hA1 := hA.on hB1
  have hI1 := hI.on hB1
  have hB2 : Below w1.heap.size w1 (w1.alloc (.cells #[] 5)) := (Below.refl _ w1).alloc (Nat.le_refl _) _
  have hO2 : OwnB (w1.alloc (.cells #[] 5)) w1.heap.size 5 (.slice (some ⟨w1.heap.size, 0, none⟩) 0 0) [] := ⟨World.ownsRow_made w1 #[] 0 (Nat.le_refl _) (by simp [maxLen]) rfl, by simp⟩
  obtain ⟨v3, w3, hrun3, hO3, hg3, hat3⟩ := run_append_bytes (P := Tryd.prog) (w1.alloc (.cells #[] 5)) 23 Tryd.underlying23 hi hz0 hz1 hz2 rfl hO2 (hA1.on hB2) (by simp; omega) (by simp)
  have hB3 := below_append hB2 hg3 hO2 (Nat.le_refl _) hB2.size
  obtain ⟨v4, w4, hrun4, hO4, hg4, hat4⟩ := run_append_bytes (P := Tryd.prog) w3 23 Tryd.underlying23 hi hz0 hz1 hz2 rfl hO3 (hI1.on hB3) (by simp; omega) hB3.size
  have hB4 := below_append hB3 hg4 hO3 (Nat.le_refl _) hB3.size
  have hA4 := hA1.on hB4
  have hI4 := hI1.on hB4
  have hT4 := hT1.below hB4
  have hS := hO4.bytes
  rw [List.nil_append] at hS
  have hlen : (xs ++ bs).length ≤ 140737488351232 := by rw [List.length_append]; omega
  clear hg3 hg4 hat3 hat4 hO2 hO3 hO4 hB2 hB3
  have HXY := Lib.hid hXY
  have HX := Lib.hid hX
  have HY := Lib.hid hY
  clear hXY hX hY
  have R3 := Lib.hid hrun3
  have R4 := Lib.hid hrun4
  clear hrun3 hrun4
  go_wp2_with (first
    | (at_builtin; refine wpList_append_ran rfl _ _ _ rfl rfl rfl R3.out ?_)
    | (at_builtin; refine wpList_append_ran rfl _ _ _ rfl rfl rfl R4.out ?_))
  refine (sum_calls v4 (xs ++ bs) hlen _ hT4 hS).mono ?_
  rintro e w5 ⟨rfl, hB5⟩
  have hT5 := hT4.below hB5
  have hA5 := hA4.on hB5
  have hI5 := hI4.on hB5
  rw [HXY.out]
  go_wp2_with fail
  refine (sum_calls sa xs (by omega) _ hT5 hA5).mono ?_
  rintro e w6 ⟨rfl, hB6⟩
  have hT6 := hT5.below hB6
  have hI6 := hI5.on hB6
  rw [HX.out]
  go_wp2_with fail
  refine (extend_calls X hXlt sb bs (by omega) _ hT6 hI6).mono ?_
  rintro e w7 ⟨rfl, hB7⟩
  rw [HY.out]
  go_wp2
  go_ret
  exact ⟨rfl, (((hB1.trans (hB4.mono hB1.size)).trans (hB5.mono (Nat.le_trans hB1.size hB4.size))).trans (hB6.mono (Nat.le_trans (Nat.le_trans hB1.size hB4.size) hB5.size))).trans (hB7.mono (Nat.le_trans (Nat.le_trans (Nat.le_trans hB1.size hB4.size) hB5.size) hB6.size))⟩

end Go.Proofs.YtbfjmphopnecdaaDoor.Crc
