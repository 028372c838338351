/-
  Contracts of the project's package crc: Sum and Extend, as plain contracts, hand back the plain functions of CrcMath, and nothing that lay has turned.
-/
import Derived.RangeFuncNested
import Derived.RangeFuncBound
import Derived.RangeFuncCalls
import Derived.RangeFuncLeaves
import Derived.RangeFuncBox
import Derived.RangeFuncFrom
import Derived.Shelf.Abstract
import Derived.Shelf.RegionOpen
import Derived.WalkKit
import Derived.OwnWalkIn
import Derived.TacticsInMore
import Derived.LoopNIn
import Derived.LoopIn
import Derived.Laws.BitsAllLaws
import Derived.Lib.Hide
import Derived.Test.YtmflcpkkeejjpaaDoorCrcWalk
namespace Go.Proofs.YtmflcpkkeejjpaaDoor.Crc
open Go.RowKit Go.Shelf Go.Proofs.YtmflcpkkeejjpaaDoor.Law

attribute [local go_sem] Oper.semAt_some

/-- Extend, Sum: plain contracts. -/
theorem extend_calls (s : Nat) (hs : s < 4294967296) (sv : Value) (bs : List Nat) (hreach : bs.length ≤ 140737488351232) (w : World) (hT : Tab w) (hI : Bytes w.heap.size w sv bs) :
    Calls Tryd.prog 34 #[.int .u32 (s : Nat), sv] w fun e W' => e = .returned (.int .u32 (extN s bs : Nat)) ∧ Below w.heap.size w W' := by
  obtain ⟨A, cap, rfl, _⟩ := id hI
  exact callsIn_wide.1 (extend_in 9 (by omega) s hs _ _ _ bs hreach w hT hI)

set_option maxHeartbeats 1000000 in
theorem sum_calls (sv : Value) (bs : List Nat) (hreach : bs.length ≤ 140737488351232) (w : World) (hT : Tab w) (hI : Bytes w.heap.size w sv bs) :
    Calls Tryd.prog 26 #[sv] w fun e W' => e = .returned (.int .u32 (extN 0 bs : Nat)) ∧ Below w.heap.size w W' := by
  have hE : Calls Tryd.prog 34 #[.int .u32 0, sv] w fun e W' => e = .returned (.int .u32 (extN 0 bs : Nat)) ∧ Below w.heap.size w W' :=
    extend_calls 0 (by decide) sv bs hreach w hT hI
  go_enter Tryd.func26, Tryd.ntmps26
  go_wp2_with (go_at_call 34; refine hE.mono ?_; rintro e w' ⟨rfl, hB⟩)
  go_ret
  exact ⟨rfl, hB⟩

end Go.Proofs.YtmflcpkkeejjpaaDoor.Crc
