/-
  Contracts of the project's package crc: Extend and Sum hand back the plain functions of CrcMath, and nothing that lay has turned.
-/
import Derived.RangeFuncNested
import Derived.RangeFuncBound
import Derived.RangeFuncCalls
import Derived.RangeFuncLeaves
import Derived.RangeFuncBox
import Derived.RangeFuncFrom
import Derived.Shelf.Abstract
import Derived.Shelf.RegionOpen
import Derived.WalkKit
import Derived.OwnWalkIn
import Derived.TacticsInMore
import Derived.LoopNIn
import Derived.LoopIn
import Derived.Laws.BitsAllLaws
import Derived.Lib.Hide
import Derived.Test.YtmflcpkkeejjpaaDoorCrcIter
namespace Go.Proofs.YtmflcpkkeejjpaaDoor.Crc
open Go.RowKit Go.Shelf Go.Proofs.YtmflcpkkeejjpaaDoor.Law

attribute [local go_sem] Oper.semAt_some

set_option maxRecDepth 100000 in
set_option maxHeartbeats 2000000 in
/-- Extend(sum, b). -/
theorem extend_in (n : Nat) (hn : 3 ≤ n) (s : Nat) (hs : s < 4294967296) (a : Option Addr) (len cap : Nat) (bs : List Nat) (hreach : bs.length ≤ 140737488351232) (w : World) (hT : Tab w) (hI : Bytes w.heap.size w (.slice a len cap) bs) :
    CallsIn Fence.wide n Tryd.prog 34 #[.int .u32 (s : Nat), .slice a len cap] w fun e W' => e = .returned (.int .u32 (extN s bs : Nat)) ∧ Below w.heap.size w W' := by
  have h1 : 1 ≤ n := by omega
  refine callsIn_of_wp_marks Tryd.func34 rfl trivial ?_ rfl
  simp only [Tryd.ntmps34, List.size_toArray, List.length_cons, List.length_nil, Nat.reduceAdd, Nat.reduceSub, Array.replicate_succ, Array.replicate_zero, List.push_toArray, List.append_toArray, List.nil_append, List.cons_append]
  obtain ⟨r0, hr0⟩ : ∃ r0, 4294967295 ^^^ s = r0 := ⟨_, rfl⟩
  have hr0lt : r0 < 4294967296 := hr0 ▸ not_lt s hs
  have hsg : IntKind.u32.signed = false := rfl
  have hnot : bits .xor .u32 IntKind.u32.max (s : Int) = (r0 : Int) := by
    rw [show IntKind.u32.max = ((4294967295 : Nat) : Int) from rfl, u32_xor_nat _ _ (by decide) hs, hr0]
  have HR := Lib.hid hr0
  clear hr0
  gi_wp2_with (refine ⟨trivial, ?_⟩; gi_at_call 35; refine (halves_in (n - 1) _ _ _ _).mono ?_; rintro e w' ⟨rfl, rfl⟩)
  have bR := Boxed.new w 48 (.int .u32 (r0 : Int))
  have bN := Boxed.new (w.alloc (.cells #[.int .u32 (r0 : Int)] 48)) 22 (.slice a len cap)
  rw [World.size_alloc] at bN
  have hB0 : Below w.heap.size w ((w.alloc (.cells #[.int .u32 (r0 : Int)] 48)).alloc (.cells #[.slice a len cap] 22)) := ((Below.refl _ w).alloc (Nat.le_refl _) _).alloc (by simp) _
  refine wpIn_rangeFunc_ownF rfl h1 (gf := 36) (lb := #[.pointer (some ⟨w.heap.size + 1, 0, none⟩)]) rfl trivial (enters_of Tryd.func36 (by kernel_rfl) rfl)
    (halves_stops (n - 1) (by omega) (w.heap.size + 1) w.heap.size _ bs hreach _ (by simp) (by simp; omega) bN.cell (hI.below hB0)) belowK_t (belowK_b (by simp; omega)) (Below.refl _ _) (fun _ => rfl)
    (fun pre W => (W.cell? ⟨w.heap.size, 0, none⟩ = some (.int .u32 ((pre.map (·.1)).foldl nibN r0 : Nat)) ∧ W.frozen? ⟨w.heap.size, 0, none⟩ = false) ∧ Below w.heap.size w W)
    (fun _ _ _ => False)
    (OwnFrom.and (Own.from (fun s A B row hs hg hr => ⟨cell_kept hs.1 hg hr, (frozen_kept hs.1 hg hr).trans hs.2⟩) _) (ownFrom_below (Nat.le_refl _) (by simp; omega)))
    (fun _ _ _ _ _ hs _ _ => hs)
    ⟨⟨(bR.alloc _).cell, (bR.alloc _).frozen⟩, hB0⟩
    (fun x => { tmps := #[.int .u32 (s : Int), .slice a len cap, undef, undef, .int .u32 0, .pointer (some ⟨w.heap.size, 0, none⟩), .int .u32 (x.1 : Nat), .int .u32 (s : Int), .int .u32 (r0 : Int), .slice a len cap, .func (.func 36) #[] #[.pointer (some ⟨w.heap.size + 1, 0, none⟩)], .int .u32 (x.1 : Nat), undef, undef, undef, undef, undef, undef, undef, undef, undef, undef, undef], defers := [] }) ?assign ?body ?done ?stop
  case assign =>
    intro l x W K hK
    gi_wp2
    exact hK
  case body =>
    rintro l pre x W ⟨⟨hc, hf⟩, hB⟩ _
    obtain ⟨x, hx16⟩ := x
    obtain ⟨r, hr⟩ : ∃ r, (pre.map (·.1)).foldl nibN r0 = r := ⟨_, rfl⟩
    have hrlt : r < 4294967296 := hr ▸ foldl_nibN_lt r0 _ hr0lt
    obtain ⟨q, hq⟩ : ∃ q, r / 16 = q := ⟨_, rfl⟩
    obtain ⟨m, hm⟩ : ∃ m, r ^^^ x = m := ⟨_, rfl⟩
    obtain ⟨k, hk⟩ : ∃ k, m % 16 = k := ⟨_, rfl⟩
    obtain ⟨t, ht⟩ : ∃ t, tabN.getD k 0 = t := ⟨_, rfl⟩
    have hmlt : m < 4294967296 := hm ▸ Nat.xor_lt_two_pow (n := 32) (by omega) (by omega)
    have hklt : k < 16 := by omega
    have htlt : t < 4294967296 := ht ▸ tabN_lt k
    have hnib : nibN r x = q ^^^ t := by unfold nibN; rw [hq, hm, hk, ht]
    have htab : W.cell? ⟨0, k, none⟩ = some (.int .u32 (t : Int)) := by rw [← ht]; exact hT.below hB k hklt
    have hshr : (r : Int) / 16 = (q : Int) := by omega
    have hxor : bits .xor .u32 (r : Int) (x : Int) = (m : Int) := by rw [u32_xor_nat _ _ hrlt (by omega), hm]
    have hand : bits .and .u32 (m : Int) 15 = (k : Int) := by
      rw [show (15 : Int) = ((15 : Nat) : Int) from rfl, u32_and_nat m 15 hmlt (by omega), show m &&& 15 = m % 16 from Nat.and_two_pow_sub_one_eq_mod m 4, hk]
    have hres : bits .xor .u32 (q : Int) (t : Int) = ((nibN r x : Nat) : Int) := by rw [u32_xor_nat _ _ (by omega) htlt, hnib]
    have hnext : ((pre ++ [(⟨x, hx16⟩ : Half)]).map (·.1)).foldl nibN r0 = nibN r x := by rw [List.map_append, List.foldl_append, hr]; rfl
    rw [hr] at hc
    obtain ⟨z, hz⟩ : ∃ z, nibN r x = z := ⟨_, rfl⟩
    rw [hz] at hres hnext
    have HN := Lib.hid hnext
    have hkI : (k : Int) < 16 := by omega
    have hmix : Tryd.prog.follows .mixedOrders = true := by kernel_rfl
    clear hr hq hm hk ht hnib hz hnext
    dsimp only
    gi_wp2
    gi_region_with_o (fail)
    all_goals gi_wp2
    all_goals exact ⟨(KeepsOthers.setCell _ _ _).trans (KeepsOthers.drew _), ((Below.refl w.heap.size W).setCell (p := ⟨w.heap.size, 0, none⟩) (Nat.le_refl _) _).drew, ⟨by rw [HN.out, cell_drew_own]; exact World.cell?_setCell_same' _ _ _ (by rw [hc]; rfl), by rw [frozen_drew_own, World.frozen?_setCell]; exact hf⟩, hB.trans ((Below.refl w.heap.size W).setCell (p := ⟨w.heap.size, 0, none⟩) (Nat.le_refl _) _).drew⟩
  case done =>
    rintro D ys W hD hys ⟨⟨hc, _⟩, hB⟩ hK
    have hrun : (ys.map (·.1)).foldl nibN r0 = runN r0 bs := by rw [hys]; rfl
    have hlt := runN_lt r0 bs hr0lt
    have hext : 4294967295 ^^^ runN r0 bs = extN s bs := by unfold extN; rw [HR.out]
    rw [hrun] at hc
    obtain ⟨R, hR⟩ : ∃ R, runN r0 bs = R := ⟨_, rfl⟩
    obtain ⟨E, hE⟩ : ∃ E, extN s bs = E := ⟨_, rfl⟩
    rw [hR] at hc hlt hext
    rw [hE] at hext
    have hnot2 : bits .xor .u32 IntKind.u32.max (R : Int) = (E : Int) := by
      rw [show IntKind.u32.max = ((4294967295 : Nat) : Int) from rfl, u32_xor_nat _ _ (by decide) hlt, hext]
    have HE := Lib.hid hE
    clear hrun hext hR hE hys
    gi_wp2
    refine ⟨by simp, .inl ⟨_, _, rfl, run_takeDeferred hK, ?_⟩⟩
    exact ⟨_, results_tmp rfl _ _ _, by rw [HE.out]; rfl, hB.trans (belowK_b (w := w) (Nat.le_refl _) W D _ _ (by simp at hD; omega) hK rfl rfl)⟩
  case stop =>
    rintro D c pre W _ _ h _
    exact h.elim

end Go.Proofs.YtmflcpkkeejjpaaDoor.Crc
