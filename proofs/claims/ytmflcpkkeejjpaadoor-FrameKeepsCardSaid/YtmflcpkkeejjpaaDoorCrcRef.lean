/-
  The document's own sum, bit by bit, is the plain function of CrcMath.
-/
import Derived.RangeFuncNested
import Derived.RangeFuncBound
import Derived.RangeFuncCalls
import Derived.RangeFuncLeaves
import Derived.RangeFuncBox
import Derived.RangeFuncFrom
import Derived.Shelf.Abstract
import Derived.Shelf.RegionOpen
import Derived.WalkKit
import Derived.OwnWalkIn
import Derived.TacticsInMore
import Derived.LoopNIn
import Derived.LoopIn
import Derived.Laws.BitsAllLaws
import Derived.Lib.Hide
import Derived.Lib.SlBytesConst
import Derived.Lib.SmallJoins
import Derived.Test.YtmflcpkkeejjpaaDoorCrcSum
namespace Go.Proofs.YtmflcpkkeejjpaaDoor.Crc
open Go.RowKit Go.Shelf Go.Proofs.YtmflcpkkeejjpaaDoor.Law

attribute [local go_sem] Oper.semAt_some

set_option maxRecDepth 100000 in
set_option maxHeartbeats 2000000 in
/-- The document's own answer, bit by bit. -/
theorem refext_calls (s : Nat) (hs : s < 4294967296) (sv : Value) (bs : List Nat) (hreach : bs.length ≤ 140737488351232) (w : World) (hI : Bytes w.heap.size w sv bs) :
    Calls Tryd.prog 28 #[.int .u32 (s : Nat), sv] w fun e W' => e = .returned (.int .u32 (extN s bs : Nat)) ∧ W' = w := by
  obtain ⟨A, cap, rfl, _, _, h256, hcs⟩ := hI
  obtain ⟨r0, hr0⟩ : ∃ r0, 4294967295 ^^^ s = r0 := ⟨_, rfl⟩
  have hr0lt : r0 < 4294967296 := hr0 ▸ not_lt s hs
  have hnot : bits .xor .u32 (s : Int) 4294967295 = (r0 : Int) := by
    rw [show (4294967295 : Int) = ((4294967295 : Nat) : Int) from rfl, u32_xor_nat _ _ hs (by decide), Nat.xor_comm, hr0]
  have HR := Lib.hid hr0
  have H256 := Lib.hid h256
  have HC := Lib.hid hcs
  clear hr0 h256 hcs
  obtain ⟨len, hlen⟩ : ∃ len, bs.length = len := ⟨_, rfl⟩
  rw [hlen] at hreach ⊢
  have HL := Lib.hid hlen
  clear hlen
  go_enter Tryd.func28, Tryd.ntmps28
  go_wp2
  go_loop [5, 6] (fun r i => ∃ k : Nat, k ≤ len ∧ i = .int .i64 k ∧ r = .int .u32 (runN r0 (bs.take k) : Nat)) (fun _ i => len - (intOf i).toNat)
  case atStart => exact ⟨0, Nat.zero_le _, rfl, rfl⟩
  case round =>
    obtain ⟨k, hk, rfl, rfl⟩ := hrel
    by_cases hlt : k < len
    · obtain ⟨b, off, rfl, _, hcell⟩ := HC.out (by rw [HL.out]; omega)
      have hcell := hcell k (by rw [HL.out]; exact hlt)
      have hx256 : bs.getD k 0 < 256 := by
        have : bs.getD k 0 = bs[k]'(by rw [HL.out]; exact hlt) := by simp [List.getD, show k < bs.length by rw [HL.out]; exact hlt]
        rw [this]; exact H256.out _ (List.getElem_mem _)
      have hnext : runN r0 (bs.take (k + 1)) = refRun (runN r0 (bs.take k)) (bs.getD k 0) 8 := by
        rw [getD_take bs k (by rw [HL.out]; exact hlt), runN_snoc, refRun_byte _ _ (runN_lt _ _ hr0lt) hx256]
      obtain ⟨x, hx⟩ : ∃ x, bs.getD k 0 = x := ⟨_, rfl⟩
      obtain ⟨R, hR⟩ : ∃ R, runN r0 (bs.take k) = R := ⟨_, rfl⟩
      have hRlt : R < 4294967296 := hR ▸ runN_lt _ _ hr0lt
      rw [hx] at hcell hx256 hnext
      rw [hR] at hnext ⊢
      have HN := Lib.hid hnext
      clear hnext hR hx
      go_wp2
      go_loop [5, 7] (fun r i => ∃ j : Nat, j ≤ 8 ∧ i = .int .i64 j ∧ r = .int .u32 (refRun R x j : Nat)) (fun _ i => 8 - (intOf i).toNat)
      case atStart => exact ⟨0, Nat.zero_le _, rfl, rfl⟩
      case round =>
        obtain ⟨j, hj, rfl, rfl⟩ := hrel
        have hrj := refRun_lt R x j hRlt
        obtain ⟨q, hq⟩ : ∃ q, refRun R x j = q := ⟨_, rfl⟩
        have hnx : refRun R x (j + 1) = refStep q (x / 2 ^ j % 2) := by rw [← hq]; rfl
        rw [hq] at hrj ⊢
        by_cases h8 : j < 8
        · obtain ⟨u, hu⟩ : ∃ u, q % 2 = u := ⟨_, rfl⟩
          obtain ⟨v, hv⟩ : ∃ v, x / 2 ^ j % 2 = v := ⟨_, rfl⟩
          have hand : bits .and .u32 (q : Int) 1 = (u : Int) := by
            rw [show (1 : Int) = ((1 : Nat) : Int) from rfl, u32_and_nat q 1 hrj (by omega), show q &&& 1 = q % 2 from Nat.and_two_pow_sub_one_eq_mod q 1, hu]
          obtain ⟨d, hd⟩ : ∃ d, x / 2 ^ j = d := ⟨_, rfl⟩
          obtain ⟨t, ht⟩ : ∃ t, u ^^^ v = t := ⟨_, rfl⟩
          obtain ⟨h, hh⟩ : ∃ h, q / 2 = h := ⟨_, rfl⟩
          obtain ⟨g, hg⟩ : ∃ g, h ^^^ 2197175160 = g := ⟨_, rfl⟩
          have hdlt : d < 256 := by rw [← hd]; exact Nat.lt_of_le_of_lt (Nat.div_le_self _ _) hx256
          have hshr : (x : Int) / 2 ^ j = (d : Int) := by rw [← hd]; simp
          have hdw : (d : Int) % 4294967296 = (d : Int) := by omega
          have hand2 : bits .and .u32 (d : Int) 1 = (v : Int) := by
            rw [show (1 : Int) = ((1 : Nat) : Int) from rfl, u32_and_nat d 1 (by omega) (by omega), show d &&& 1 = d % 2 from Nat.and_two_pow_sub_one_eq_mod d 1, ← hv, hd]
          have hxr : bits .xor .u32 (u : Int) (v : Int) = (t : Int) := by rw [u32_xor_nat _ _ (by omega) (by omega), ht]
          have hq2 : (q : Int) / 2 = (h : Int) := by omega
          have hpoly : bits .xor .u32 (h : Int) 2197175160 = (g : Int) := by
            rw [show (2197175160 : Int) = ((2197175160 : Nat) : Int) from rfl, u32_xor_nat _ _ (by omega) (by decide), hg]
          have hnx2 : refRun R x (j + 1) = if t = 1 then g else h := by
            rw [hnx]; unfold refStep; rw [hu, hv, ht, hh, hg]
          have HX := Lib.hid hnx2
          have hjI : (j : Int) < 8 := by omega
          clear hq hnx hu hv hd ht hh hg hnx2
          by_cases ht1 : t = 1
          · have htb : ((t : Int) == 1) = true := by rw [ht1]; rfl
            have HT := Lib.hid ht1
            clear ht1
            go_wp2
            go_round
            case rel => exact ⟨j + 1, by omega, by go_num, by rw [HX.out, if_pos HT.out]⟩
            case measure => simp [intOf]; omega
          · have htb : ((t : Int) == 1) = false := by
              rw [beq_eq_false_iff_ne]; omega
            have HT := Lib.hid ht1
            clear ht1
            go_wp2
            go_round
            case rel => exact ⟨j + 1, by omega, by go_num, by rw [HX.out, if_neg HT.out]⟩
            case measure => simp [intOf]; omega
        · obtain rfl : j = 8 := by omega
          clear hnx
          have H8 := Lib.hid hq
          clear hq
          go_wp2
          go_round
          case rel => exact ⟨k + 1, by omega, by go_num, by rw [HN.out, H8.out]⟩
          case measure => simp [intOf]; omega
    · obtain rfl : k = len := by omega
      have hfin : runN r0 (bs.take k) = runN r0 bs := by rw [List.take_of_length_le (by rw [HL.out]; omega)]
      rw [hfin]
      have hlt2 := runN_lt r0 bs hr0lt
      have hext : 4294967295 ^^^ runN r0 bs = extN s bs := by unfold extN; rw [HR.out]
      obtain ⟨R, hR⟩ : ∃ R, runN r0 bs = R := ⟨_, rfl⟩
      obtain ⟨E, hE⟩ : ∃ E, extN s bs = E := ⟨_, rfl⟩
      rw [hR] at hlt2 hext ⊢
      rw [hE] at hext
      have hnot2 : bits .xor .u32 (R : Int) 4294967295 = (E : Int) := by
        rw [show (4294967295 : Int) = ((4294967295 : Nat) : Int) from rfl, u32_xor_nat _ _ hlt2 (by decide), Nat.xor_comm, hext]
      have HE := Lib.hid hE
      clear hfin hR hext hE
      go_wp2
      go_ret
      exact ⟨by rw [HE.out]; rfl, rfl⟩

end Go.Proofs.YtmflcpkkeejjpaaDoor.Crc
