/-
  The chapter's example, which every statement of layer 2 asks for first: true.
-/
import Derived.Test.YtmflcpkkeejjpaaDoorFrameRead
namespace Go.Proofs.YtmflcpkkeejjpaaDoor.Frame
open Go.RowKit Go.Shelf Go.Proofs.YtmflcpkkeejjpaaDoor.Law Go.Proofs.YtmflcpkkeejjpaaDoor.Crc

theorem frame_none : frameN [] = [0, 0, 0, 0, 199, 75, 103, 72, 0, 0, 0, 0] := by decide +kernel
theorem next_zeros : nextN (List.replicate 8 0) 0 = ([], 0, 4) := by decide +kernel
theorem str_none : str [0, 0, 0, 0, 199, 75, 103, 72, 0, 0, 0, 0] = { data := #[0, 0, 0, 0, 199, 75, 103, 72, 0, 0, 0, 0] } := by decide +kernel

set_option maxRecDepth 100000 in
set_option maxHeartbeats 2000000 in
theorem known_calls (w : World) (hT : Tab w) :
    Calls Tryd.prog 12 #[] w fun e W' => e = .returned (.bool true) ∧ Below w.heap.size w W' := by
  obtain ⟨i0, hi, hz0, hz1, hz2⟩ := info_parts info_u8'
  have c1 := put_calls (.slice none 0 0) [] w hT ⟨none, 0, rfl, by simp, fun _ => rfl, by simp, by simp⟩
  have hp : putN [] = (frameN [], 0) := by unfold putN; rw [if_pos (by simp)]
  rw [hp, frame_none] at c1
  have C1 := Lib.hid c1
  have HT := Lib.hid hT
  clear c1 hp hT
  go_enter Tryd.func12, Tryd.ntmps12
  go_wp2_with fail
  refine C1.out.mono ?_
  rintro e w1 ⟨v1, rfl, O1, hB1⟩
  go_wp2_with (at_make; refine wpList_make_full _ rfl _ _ _ rfl w1.heap.size 5 i0 (.int .u8 0) 1 Tryd.underlying22 hi hz0 hz1 _ _ _ _ 8 rfl rfl rfl rfl (by rw [hz2]; decide) (by simp only [maxLen]; decide) (Nat.le_refl _) ?_; intro w2 hO2 hg2)
  have hB2 : Below w1.heap.size w1 w2 := (Below.refl _ w1).grown hg2 (Nat.le_refl _) (by simp)
  have O2 : OwnB w2 w1.heap.size 5 (.slice (some ⟨w1.heap.size, 0, none⟩) 8 8) (List.replicate 8 0) := ⟨by rw [show (Value.int IntKind.u8 0).cells = #[.int .u8 0] from rfl, toList_madeCells_one] at hO2; simpa [vals] using hO2, by simp⟩
  have hB2w := hB1.trans (hB2.mono hB1.size)
  have O1' := O1.below hB2
  have c2 := next_at _ (List.replicate 8 0) (by simp) 0 (by simp) w2 (HT.out.below hB2w) O2.bytes
  rw [next_zeros] at c2
  have C2 := Lib.hid c2
  clear c2 hO2 hg2 O2 O1 hB1 hB2
  go_wp2_with fail
  refine C2.out.mono ?_
  rintro e w3 ⟨v3, rfl, -, B3⟩
  have O1'' := O1'.below B3
  have hB3 := hB2w.trans (B3.mono hB2w.size)
  have cs := run_string_bytes (P := Tryd.prog) w3 Tryd.underlying22 Tryd.underlying5 Tryd.underlying9 O1''.bytes
  rw [str_none] at cs
  clear O1' O1'' B3 hB2w C2
  go_wp2
  go_ret
  exact ⟨rfl, hB3⟩

end Go.Proofs.YtmflcpkkeejjpaaDoor.Frame
