/-
  The walk of the law CrcKeeps: whatever the bytes, it returns true and nothing that lay has turned.
-/
import Derived.Test.YtbfjmphopnecdaaDoorCrcKnown
import Derived.Test.YtbfjmphopnecdaaDoorSame
namespace Go.Proofs.YtbfjmphopnecdaaDoor.Crc
open Go.RowKit Go.Proofs.YtbfjmphopnecdaaDoor.Law

set_option maxRecDepth 100000 in
set_option maxHeartbeats 1000000 in
theorem crcKeeps_law (sv : Value) (bs : List Nat) (hreach : bs.length ≤ 140737488351232) (w : World) (hT : Tab w) (hI : Bytes w.heap.size w sv bs) :
    Calls Tryd.prog 7 #[sv] w fun e W' => e = .returned (.bool true) ∧ Below w.heap.size w W' := by
  obtain ⟨X, hX⟩ : ∃ X, extN 0 bs = X := ⟨_, rfl⟩
  go_enter Tryd.func7, Tryd.ntmps7
  go_wp2_with fail
  refine (room_calls sv bs hreach w hI).mono ?_
  rintro e w1 ⟨g, cap, rfl, hO1, hB1⟩
  have hT1 := hT.below hB1
  have hI1 := hI.on hB1
  have hF1 := hO1.front bs.length (by omega) (by simp)
  rw [List.take_left' rfl] at hF1
  go_wp2_with fail
  refine (sum_calls _ bs hreach _ hT1 hF1).mono ?_
  rintro e w2 ⟨rfl, hB2⟩
  have hT2 := hT1.below hB2
  have hI2 := hI1.on hB2
  have hO2 := hO1.below hB2
  rw [hX]
  go_wp2_with fail
  refine (known_calls _ hT2).mono ?_
  rintro e w3 ⟨rfl, hB3⟩
  have hT3 := hT2.below hB3
  have hI3 := hI2.on hB3
  have hO3 := hO2.below hB3
  go_wp2_with fail
  refine (kept_true sv bs hreach w3 _ g cap hO3 hI3).mono ?_
  rintro e w4 ⟨rfl, rfl⟩
  go_wp2_with fail
  refine (sum_calls sv bs hreach _ hT3 hI3).mono ?_
  rintro e w5 ⟨rfl, hB5⟩
  rw [hX]
  go_wp2
  go_ret
  exact ⟨rfl, ((hB1.trans (hB2.mono hB1.size)).trans (hB3.mono (Nat.le_trans hB1.size hB2.size))).trans (hB5.mono (Nat.le_trans (Nat.le_trans hB1.size hB2.size) hB3.size))⟩

end Go.Proofs.YtbfjmphopnecdaaDoor.Crc
