/-
  The walk of the law FramePuts: whatever the payload, it returns true and nothing that lay has turned.
-/
import Derived.Test.YtmflcpkkeejjpaaDoorFrameKnown
namespace Go.Proofs.YtmflcpkkeejjpaaDoor.Frame
open Go.RowKit Go.Shelf Go.Proofs.YtmflcpkkeejjpaaDoor.Law Go.Proofs.YtmflcpkkeejjpaaDoor.Crc

set_option maxRecDepth 100000 in
set_option maxHeartbeats 2000000 in
theorem framePuts_law (sv : Value) (bs : List Nat) (hreach : bs.length ≤ 140737488351232) (w : World) (hT : Tab w) (hI : Bytes w.heap.size w sv bs) :
    Calls Tryd.prog 3 #[sv] w fun e W' => e = .returned (.bool true) ∧ Below w.heap.size w W' := by
  obtain ⟨F, n, hF⟩ : ∃ F n, putN bs = (F, n) := ⟨_, _, rfl⟩
  have c1 := put_calls sv bs hreach w hT hI
  rw [hF] at c1
  have C1 := Lib.hid c1
  have HF := Lib.hid hF
  have HI := Lib.hid hI
  have HT := Lib.hid hT
  clear c1 hF hI hT
  go_enter Tryd.func3, Tryd.ntmps3
  go_wp2_with fail
  refine C1.out.mono ?_
  rintro e w1 ⟨v1, rfl, O1, hB1⟩
  clear C1
  have c2 := refput_calls sv bs hreach w1 (HI.out.on hB1)
  rw [HF.out] at c2
  have C2 := Lib.hid c2
  clear c2
  go_wp2_with fail
  refine C2.out.mono ?_
  rintro e w2 ⟨v2, rfl, O2, B2⟩
  have hB2 := hB1.trans (B2.mono hB1.size)
  have O1' := O1.below B2
  clear C2 O1 B2
  go_wp2_with fail
  refine (known_calls w2 (HT.out.below hB2)).mono ?_
  rintro e w3 ⟨rfl, B3⟩
  have hB3 := hB2.trans (B3.mono hB2.size)
  have I1 := (O1'.below B3).bytes
  have I2 := (O2.below B3).bytes
  have C3 := Lib.hid (same_true v1 v2 F w3 I1 I2)
  clear O1' O2 B3 I1 I2
  go_wp2_with fail
  refine C3.out.mono ?_
  rintro e w4 ⟨rfl, rfl⟩
  go_wp2
  go_ret
  exact ⟨rfl, hB3⟩

end Go.Proofs.YtmflcpkkeejjpaaDoor.Frame
