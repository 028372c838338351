/-
  The walk of the law CrcSums: whatever the sum and the bytes, it returns true and nothing that lay has turned.
-/
import Derived.Test.YtbfjmphopnecdaaDoorCrcKnown
namespace Go.Proofs.YtbfjmphopnecdaaDoor.Crc
open Go.RowKit Go.Proofs.YtbfjmphopnecdaaDoor.Law

set_option maxRecDepth 100000 in
set_option maxHeartbeats 1000000 in
theorem crcSums_law (s : Nat) (hs : s < 4294967296) (sv : Value) (bs : List Nat) (hreach : bs.length ≤ 140737488351232) (w : World) (hT : Tab w) (hI : Bytes w.heap.size w sv bs) :
    Calls Tryd.prog 3 #[.int .u32 (s : Nat), sv] w fun e W' => e = .returned (.bool true) ∧ Below w.heap.size w W' := by
  obtain ⟨X, hX⟩ : ∃ X, extN 0 bs = X := ⟨_, rfl⟩
  obtain ⟨Y, hY⟩ : ∃ Y, extN s bs = Y := ⟨_, rfl⟩
  go_enter Tryd.func3, Tryd.ntmps3
  go_wp2_with fail
  refine (known_calls _ hT).mono ?_
  rintro e w1 ⟨rfl, hB1⟩
  have hT1 := hT.below hB1
  have hI1 := (hI.below hB1).more hB1.size
  go_wp2_with fail
  refine (sum_calls sv bs hreach _ hT1 hI1).mono ?_
  rintro e w2 ⟨rfl, hB2⟩
  have hT2 := hT1.below hB2
  have hI2 := (hI1.below hB2).more hB2.size
  rw [hX]
  go_wp2_with fail
  refine (refext_calls 0 (by decide) sv bs hreach _ hI2).mono ?_
  rintro e w2' ⟨rfl, rfl⟩
  rw [hX]
  go_wp2_with fail
  refine (extend_calls s hs sv bs hreach _ hT2 hI2).mono ?_
  rintro e w3 ⟨rfl, hB3⟩
  have hI3 := (hI2.below hB3).more hB3.size
  rw [hY]
  go_wp2_with fail
  refine (refext_calls s hs sv bs hreach _ hI3).mono ?_
  rintro e w3' ⟨rfl, rfl⟩
  rw [hY]
  go_wp2
  go_ret
  exact ⟨rfl, (hB1.trans (hB2.mono hB1.size)).trans (hB3.mono (Nat.le_trans hB1.size hB2.size))⟩

end Go.Proofs.YtbfjmphopnecdaaDoor.Crc
