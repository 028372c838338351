/-
  Contracts of the project's package crc: the iterator over the halves of bytes tells them in their order, the lower one first.
-/
import Derived.RangeFuncNested
import Derived.RangeFuncBound
import Derived.RangeFuncCalls
import Derived.RangeFuncLeaves
import Derived.RangeFuncBox
import Derived.RangeFuncFrom
import Derived.Shelf.Abstract
import Derived.Shelf.RegionOpen
import Derived.WalkKit
import Derived.OwnWalkIn
import Derived.TacticsInMore
import Derived.LoopNIn
import Derived.LoopIn
import Derived.Laws.BitsAllLaws
import Derived.Lib.Hide
import Derived.Test.YtmflcpkkeejjpaaDoorCrcMath
import Derived.Test.YtmflcpkkeejjpaaDoorLaw
import Derived.Test.YtmflcpkkeejjpaaDoorChecked
namespace Go.Proofs.YtmflcpkkeejjpaaDoor.Crc
open Go.RowKit Go.Shelf Go.Proofs.YtmflcpkkeejjpaaDoor.Law

attribute [local go_sem] Oper.semAt_some

/-- The table's cells lie as the program's text lays them. -/
def Tab (W : World) : Prop := ∀ k, k < 16 → W.cell? ⟨0, k, none⟩ = some (.int .u32 (tabN.getD k 0 : Nat))

theorem getD_take (bs : List Nat) (k : Nat) (h : k < bs.length) : bs.take (k + 1) = bs.take k ++ [bs.getD k 0] := by
  rw [List.take_succ_eq_append_getElem h]; congr 2; simp [List.getD, h]

set_option maxRecDepth 100000 in
set_option maxHeartbeats 2000000 in
theorem halves1_in (n : Nat) (hn : 1 ≤ n) (l Bs n₀ b off len cap : Nat) (bs : List Nat) (hlen : bs.length = len) (hreach : len ≤ 140737488351232) (hlt256 : ∀ x ∈ bs, x < 256) (hb : b < n₀) (J Jx : List Nat → World → Prop)
    (hY : ∀ (pre : List Nat) (x : { x : Nat // x < 16 }) (W : World), J pre W → pre.length < 2 * len → YieldAt Fence.wide (n - 1) Tryd.prog l #[.int .u32 (x.1 : Nat)] W fun e W' =>
      (e = .returned (.bool true) ∧ J (pre ++ [x.1]) W' ∧ Below n₀ W W') ∨ (e = .returned (.bool false) ∧ Jx (pre ++ [x.1]) W'))
    (W : World) (hBs : W.cell? ⟨Bs, 0, none⟩ = some (.slice (some ⟨b, off, none⟩) len cap)) (hc : ∀ j, j < len → W.cell? ⟨b, off + j, none⟩ = some (.int .u8 (bs.getD j 0 : Nat))) (h0 : J [] W) :
    CallsIn Fence.wide n Tryd.prog 36 #[.func (.yield l) #[] #[], .pointer (some ⟨Bs, 0, none⟩)] W fun e W' => (∃ v, e = .returned v) ∧
      ((∃ ys, ys = halvesN bs ∧ J ys W') ∨ (∃ pre, True ∧ Jx pre W')) := by
  refine callsIn_of_wp Tryd.func36 rfl trivial ?_ rfl
  simp only [Tryd.ntmps36, List.size_toArray, List.length_cons, List.length_nil, Nat.reduceAdd, Nat.reduceSub, Array.replicate_succ, Array.replicate_zero, List.push_toArray, List.append_toArray, List.nil_append, List.cons_append]
  gi_wp2
  gi_loopw [7] (fun i wr => ∃ k : Nat, k ≤ len ∧ i = .int .i64 k ∧ J (halvesN (bs.take k)) wr ∧ Below n₀ W wr)
    (fun i _ => len - (intOf i).toNat)
  case atStart => exact ⟨0, Nat.zero_le _, rfl, h0, Below.refl _ _⟩
  case round =>
    obtain ⟨k, hk, rfl, hJs, hnx⟩ := hrel
    have hcx : k < len → wr.cell? ⟨b, off + k, none⟩ = some (.int .u8 (bs.getD k 0 : Nat)) := fun h => (hnx.cell (p := ⟨b, off + k, none⟩) hb).trans (hc k h)
    by_cases hlt : k < len
    · have hx256 : bs.getD k 0 < 256 := by
        have : bs.getD k 0 = bs[k]'(by omega) := by simp [List.getD, show k < bs.length by omega]
        rw [this]; exact hlt256 _ (List.getElem_mem _)
      have hsnoc : halvesN (bs.take (k + 1)) = halvesN (bs.take k) ++ [bs.getD k 0 % 16] ++ [bs.getD k 0 / 16] := by
        rw [getD_take bs k (by omega), halvesN_snoc]
      have hlk : (halvesN (bs.take k)).length = 2 * k := by rw [halvesN_length, List.length_take]; omega
      have hcx' := hcx hlt
      clear hcx
      obtain ⟨pre, hpre⟩ : ∃ pre, halvesN (bs.take k) = pre := ⟨_, rfl⟩
      obtain ⟨x, hx⟩ : ∃ x, bs.getD k 0 = x := ⟨_, rfl⟩
      rw [hpre] at hlk hJs hsnoc
      rw [hx] at hx256 hcx' hsnoc
      obtain ⟨y, hy16⟩ : ∃ y, x % 16 = y := ⟨_, rfl⟩
      obtain ⟨z, hz16⟩ : ∃ z, x / 16 = z := ⟨_, rfl⟩
      have ly : y < 16 := by omega
      have lz : z < 16 := by omega
      have hand : bits .and .u8 (x : Int) 15 = (y : Int) := by
        rw [show (15 : Int) = ((15 : Nat) : Int) from rfl, u8_and_nat x 15 hx256 (by omega), show x &&& 15 = x % 16 from Nat.and_two_pow_sub_one_eq_mod x 4, hy16]
      have hshr : (x : Int) / 16 = (z : Int) := by omega
      have hyw : (y : Int) % 4294967296 = y := by omega
      have hzw : (z : Int) % 4294967296 = z := by omega
      rw [hy16, hz16] at hsnoc
      obtain ⟨fn, tmps, assign, body, hy, hR⟩ := hY pre ⟨y, ly⟩ wr hJs (by rw [hlk]; omega)
      have hY2 := fun W3 (hJ3 : J (pre ++ [y]) W3) => hY (pre ++ [y]) ⟨z, lz⟩ W3 hJ3 (by rw [List.length_append, hlk]; simp; omega)
      have HY2 := Lib.hid hY2
      have HS := Lib.hid hsnoc
      have HL := Lib.hid hlen
      clear hY hY2 hsnoc hlen hlk hpre hx hy16 hz16 hlt256 hJs hc
      gi_wp2
      refine hR.mono ?_
      rintro e W3 (⟨rfl, hJ3, hk3⟩ | ⟨rfl, hJx3⟩)
      · obtain ⟨fn2, tmps2, assign2, body2, hy2, hR2⟩ := HY2.out W3 hJ3
        clear hy hR
        gi_wp2
        refine hR2.mono ?_
        rintro e W4 (⟨rfl, hJ4, hk4⟩ | ⟨rfl, hJx4⟩)
        · clear hy2 hR2
          gi_wp2
          go_roundw
          case rel => exact ⟨k + 1, by omega, by simp, by rw [HS.out]; exact hJ4, (hnx.trans hk3).trans hk4⟩
          case measure => simp [intOf]; omega
        · gi_wp2
          refine bodyPost_ret (results_none rfl _ _ _) rfl ?_
          exact ⟨⟨_, rfl⟩, .inr ⟨_, trivial, hJx4⟩⟩
      · gi_wp2
        all_goals
          refine ⟨fun _ h => (by cases h), ?_⟩
          gi_wp2
          refine bodyPost_ret (results_none rfl _ _ _) rfl ?_
          exact ⟨⟨_, rfl⟩, .inr ⟨_, trivial, hJx3⟩⟩
    · obtain rfl : k = len := by omega
      gi_wp2
      go_end0
      exact ⟨⟨_, rfl⟩, .inl ⟨_, rfl, by rw [List.take_of_length_le (by omega)] at hJs; exact hJs⟩⟩

set_option maxRecDepth 100000 in
set_option maxHeartbeats 1000000 in
/-- .. at a slice without elements (a nil one, an empty one): no round. -/
theorem halves1_none_in (n : Nat) (l Bs cap : Nat) (A : Option Addr) (J : List Nat → World → Prop) (W : World) (hBs : W.cell? ⟨Bs, 0, none⟩ = some (.slice A 0 cap)) (h0 : J [] W) :
    CallsIn Fence.wide n Tryd.prog 36 #[.func (.yield l) #[] #[], .pointer (some ⟨Bs, 0, none⟩)] W fun e W' => (∃ v, e = .returned v) ∧ J [] W' := by
  refine callsIn_of_wp Tryd.func36 rfl trivial ?_ rfl
  simp only [Tryd.ntmps36, List.size_toArray, List.length_cons, List.length_nil, Nat.reduceAdd, Nat.reduceSub, Array.replicate_succ, Array.replicate_zero, List.push_toArray, List.append_toArray, List.nil_append, List.cons_append]
  gi_wp2
  gi_loopw [7] (fun i wr => i = .int .i64 0 ∧ J [] wr) (fun _ _ => 0)
  case atStart => exact ⟨rfl, h0⟩
  case round =>
    obtain ⟨rfl, hJs⟩ := hrel
    gi_wp2
    go_end0
    exact ⟨⟨_, rfl⟩, hJs⟩

set_option maxHeartbeats 1000000 in
/-- halves(b): the slice value is boxed; the function value captures the box. -/
theorem halves_in (n : Nat) (a : Option Addr) (len cap : Nat) (w : World) :
    CallsIn Fence.wide n Tryd.prog 35 #[.slice a len cap] w fun e w' => e = .returned (.func (.func 36) #[] #[.pointer (some ⟨w.heap.size, 0, none⟩)]) ∧ w' = w.alloc (.cells #[.slice a len cap] 22) := by
  refine callsIn_of_wp Tryd.func35 rfl trivial ?_ rfl
  simp only [Tryd.ntmps35, List.size_toArray, List.length_cons, List.length_nil, Nat.reduceAdd, Nat.reduceSub, Array.replicate_succ, Array.replicate_zero, List.push_toArray, List.append_toArray, List.nil_append, List.cons_append]
  gi_wp2
  go_ret
  exact ⟨rfl, rfl⟩

/-- A half of a byte. -/
abbrev Half := { x : Nat // x < 16 }

theorem halvesN_lt {bs : List Nat} (h : ∀ x ∈ bs, x < 256) : ∀ x ∈ halvesN bs, x < 16 := by
  intro x hx
  simp only [halvesN, List.mem_flatMap, List.mem_cons, List.not_mem_nil, or_false] at hx
  obtain ⟨y, hy, rfl | rfl⟩ := hx
  · omega
  · have := h y hy; omega

/-- halves(b) hands back a value that tells the halves in their order: all of them, or a part. -/
theorem halves_stops (n : Nat) (hn : 1 ≤ n) (Bs n₀ : Nat) (sv : Value) (bs : List Nat) (hreach : bs.length ≤ 140737488351232) (w : World) (hBs : Bs < w.heap.size) (hn₀ : n₀ ≤ w.heap.size)
    (hc : w.cell? ⟨Bs, 0, none⟩ = some sv) (hI : Bytes n₀ w sv bs) :
    SeqStopsK Fence.wide n Tryd.prog 36 #[.pointer (some ⟨Bs, 0, none⟩)] (fun x : Half => #[Value.int .u32 (x.1 : Nat)]) (Below n₀) (fun ys => ys.map (·.1) = halvesN bs) (fun _ => True) (2 * bs.length) w := fun l J Jx W hW _ _ hY h0 => by
  have hc' := (hW.cell (p := ⟨Bs, 0, none⟩) hBs).trans hc
  obtain ⟨A, cap, rfl, _, _, h256, hcs⟩ := hI.below (hW.mono hn₀)
  rcases Nat.eq_zero_or_pos bs.length with hz | hpos
  · rw [hz] at hc'
    obtain rfl : bs = [] := List.length_eq_zero_iff.1 hz
    exact (halves1_none_in n l Bs cap A (fun _ W => J [] W) W hc' h0).mono fun e W' ⟨he, hj⟩ => ⟨he, .inl ⟨[], rfl, hj⟩⟩
  · obtain ⟨b, off, rfl, hb, hcell⟩ := hcs hpos
    refine (halves1_in n hn l Bs n₀ b off bs.length cap bs rfl hreach h256 hb
      (fun pre W => ∃ ys : List Half, ys.map (·.1) = pre ∧ J ys W) (fun pre W => ∃ ys : List Half, ys.map (·.1) = pre ∧ Jx ys W) ?_ W hc' hcell ⟨[], rfl, h0⟩).mono ?_
    · rintro pre x W' ⟨ys, rfl, hJ⟩ hlen
      refine (hY ys x W' hJ (by simpa using hlen)).mono ?_
      rintro e W2 (⟨rfl, hJ2, hk2⟩ | ⟨rfl, hJ2⟩)
      · exact .inl ⟨rfl, ⟨ys ++ [x], by simp, hJ2⟩, hk2⟩
      · exact .inr ⟨rfl, ⟨ys ++ [x], by simp, hJ2⟩⟩
    · rintro e W' ⟨he, ⟨ys, rfl, zs, hz, hj⟩ | ⟨pre, _, zs, hz, hj⟩⟩
      · exact ⟨he, .inl ⟨zs, hz, hj⟩⟩
      · exact ⟨he, .inr ⟨zs, trivial, hj⟩⟩

theorem Tab.lt {W : World} (h : Tab W) : 0 < W.heap.size := by
  rcases Nat.lt_or_ge 0 W.heap.size with hlt | hge
  · exact hlt
  · have := h 0 (by decide)
    simp [World.cell?, Array.getElem?_eq_none hge] at this
theorem Tab.below {W W' : World} (h : Tab W) (hb : Below W.heap.size W W') : Tab W' := fun k hk =>
  (hb.cell (p := ⟨0, k, none⟩) h.lt).trans (h k hk)

end Go.Proofs.YtmflcpkkeejjpaaDoor.Crc
