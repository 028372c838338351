/-
  The contract of SameList, at two lists of the same bytes: true.
-/
import Derived.Test.YtmflcpkkeejjpaaDoorFrameRefCut
namespace Go.Proofs.YtmflcpkkeejjpaaDoor.Frame
open Go.RowKit Go.Shelf Go.Proofs.YtmflcpkkeejjpaaDoor.Law Go.Proofs.YtmflcpkkeejjpaaDoor.Crc

set_option maxRecDepth 100000 in
set_option maxHeartbeats 4000000 in
theorem samelist_true (sa sb : Value) (pss : List (List Nat)) (hreach : pss.length ≤ 140737488351232) (w : World) (hA : ByteRows w.heap.size w sa pss) (hB : ByteRows w.heap.size w sb pss) :
    Calls Tryd.prog 18 #[sa, sb] w fun e W' => e = .returned (.bool true) ∧ Below w.heap.size w W' := by
  obtain ⟨A, ca, rfl⟩ := hA.form
  obtain ⟨B, cb, rfl⟩ := hB.form
  obtain ⟨len, hlen⟩ : ∃ len, pss.length = len := ⟨_, rfl⟩
  rw [hlen] at hA hB hreach ⊢
  have HA := Lib.hid hA
  have HB := Lib.hid hB
  have HL := Lib.hid hlen
  clear hA hB hlen
  go_enter Tryd.func18, Tryd.ntmps18
  go_wp2
  go_loopw [5] (fun i wr => ∃ k : Nat, k ≤ len ∧ i = .int .i64 k ∧ Below w.heap.size w wr) (fun i _ => len - (intOf i).toNat)
  case atStart => exact ⟨0, Nat.zero_le _, rfl, Below.refl _ _⟩
  case round =>
    obtain ⟨k, hk, rfl, hBr⟩ := hrel
    by_cases hlt : k < len
    · obtain ⟨b1, o1, rfl, hb1, hc1⟩ := (HA.out.below hBr).cells (by omega)
      obtain ⟨v1, hv1, hI1⟩ := hc1 k hlt
      obtain ⟨b2, o2, rfl, hb2, hc2⟩ := (HB.out.below hBr).cells (by omega)
      obtain ⟨v2, hv2, hI2⟩ := hc2 k hlt
      have cS := fun W' (h : W' = wr ∨ ∃ m, W' = wr.drewN m) => same_true v1 v2 (pss.getD k []) W' (n := w.heap.size) (m := w.heap.size) (by rcases h with rfl | ⟨m, rfl⟩ <;> exact hI1) (by rcases h with rfl | ⟨m, rfl⟩ <;> exact hI2)
      obtain ⟨A1, c1, rfl⟩ := hI1.form
      obtain ⟨A2, c2, rfl⟩ := hI2.form
      obtain ⟨pl, hpl⟩ : ∃ pl, (pss.getD k []).length = pl := ⟨_, rfl⟩
      rw [hpl] at hv1 hv2 cS
      have CS := Lib.hid cS
      have hkI : (k : Int) < (len : Int) := by omega
      clear hc1 hc2 hI1 hI2 cS hpl
      go_wp2
      go_quiet ((go_at_call 13; exact Calls.quiet_of_same (CS.out _ (.inr ⟨_, rfl⟩))))
      go_wp2
      go_roundw
      case rel => exact ⟨k + 1, by omega, by go_num, below_drewN hBr _⟩
      case measure => simp [intOf]; omega
    · obtain rfl : k = len := by omega
      go_wp2
      go_ret
      exact ⟨rfl, hBr⟩

end Go.Proofs.YtmflcpkkeejjpaaDoor.Frame
