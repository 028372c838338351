/-
  The walk of the law FrameNexts: whatever the bytes and the place, it returns true and nothing that lay has turned.
-/
import Derived.Test.YtmflcpkkeejjpaaDoorFrameKnown
import Derived.Test.YtmflcpkkeejjpaaDoorFrameRef
namespace Go.Proofs.YtmflcpkkeejjpaaDoor.Frame
open Go.RowKit Go.Shelf Go.Proofs.YtmflcpkkeejjpaaDoor.Law Go.Proofs.YtmflcpkkeejjpaaDoor.Crc

/-- The answer at any place. -/
def answerN (bs : List Nat) (z : Int) : List Nat × Nat × Nat := if z < 0 ∨ (bs.length : Int) < z then ([], 0, 1) else nextN bs z.toNat

theorem next_calls (sv : Value) (bs : List Nat) (hreach : bs.length ≤ 140737488351232) (z : Int) (w : World) (hT : Tab w) (hI : Bytes w.heap.size w sv bs) :
    Calls Tryd.prog 14 #[sv, .int .i64 z] w (Owned3 w.heap.size w (answerN bs z)) := by
  unfold answerN
  by_cases h : z < 0 ∨ (bs.length : Int) < z
  · rw [if_pos h]; exact next_bad sv bs z h w hI
  · rw [if_neg h]
    have e : z = (z.toNat : Int) := by omega
    have c := next_at sv bs hreach z.toNat (by omega) w hT hI
    rw [← e] at c
    exact c
theorem refnext_calls (sv : Value) (bs : List Nat) (hreach : bs.length ≤ 140737488351232) (z : Int) (w : World) (hI : Bytes w.heap.size w sv bs) :
    Calls Tryd.prog 15 #[sv, .int .i64 z] w (Owned3 w.heap.size w (answerN bs z)) := by
  unfold answerN
  by_cases h : z < 0 ∨ (bs.length : Int) < z
  · rw [if_pos h]; exact refnext_bad sv bs z h w hI
  · rw [if_neg h]
    have e : z = (z.toNat : Int) := by omega
    have c := refnext_at sv bs hreach z.toNat (by omega) w hI
    rw [← e] at c
    exact c

set_option maxRecDepth 100000 in
set_option maxHeartbeats 2000000 in
theorem frameNexts_law (sv : Value) (bs : List Nat) (hreach : bs.length ≤ 140737488351232) (z : Int) (w : World) (hT : Tab w) (hI : Bytes w.heap.size w sv bs) :
    Calls Tryd.prog 4 #[sv, .int .i64 z] w fun e W' => e = .returned (.bool true) ∧ Below w.heap.size w W' := by
  obtain ⟨F, m, n, hF⟩ : ∃ F m n, answerN bs z = (F, m, n) := ⟨_, _, _, rfl⟩
  have c1 := next_calls sv bs hreach z w hT hI
  rw [hF] at c1
  have C1 := Lib.hid c1
  have HF := Lib.hid hF
  have HI := Lib.hid hI
  have HT := Lib.hid hT
  clear c1 hF hI hT
  go_enter Tryd.func4, Tryd.ntmps4
  go_wp2_with fail
  refine C1.out.mono ?_
  rintro e w1 ⟨v1, rfl, O1, hB1⟩
  clear C1
  have c2 := refnext_calls sv bs hreach z w1 (HI.out.on hB1)
  rw [HF.out] at c2
  have C2 := Lib.hid c2
  clear c2
  go_wp2_with fail
  refine C2.out.mono ?_
  rintro e w2 ⟨v2, rfl, O2, B2⟩
  have hB2 := hB1.trans (B2.mono hB1.size)
  have O1' := O1.below B2
  clear C2 O1 B2
  go_wp2_with fail
  refine (known_calls w2 (HT.out.below hB2)).mono ?_
  rintro e w3 ⟨rfl, B3⟩
  have hB3 := hB2.trans (B3.mono hB2.size)
  have I1 := (O1'.below B3).bytes
  have I2 := (O2.below B3).bytes
  have C3 := Lib.hid (same_true v1 v2 F w3 I1 I2)
  clear O1' O2 B3 I1 I2
  go_wp2_with fail
  refine C3.out.mono ?_
  rintro e w4 ⟨rfl, rfl⟩
  go_wp2
  go_ret
  exact ⟨rfl, hB3⟩

end Go.Proofs.YtmflcpkkeejjpaaDoor.Frame
