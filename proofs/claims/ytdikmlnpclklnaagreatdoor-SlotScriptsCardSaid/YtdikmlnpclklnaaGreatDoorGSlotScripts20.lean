/-
  Put together out of texts of one chain: what they hold stands ahead of each.
-/
import Derived.Test.YtdikmlnpclklnaaGreatDoorGSlotScripts01
import Derived.Test.YtdikmlnpclklnaaGreatDoorGSlotScripts07
/-
  Contracts of slot's rightName, and of the block of a slot: take, Get.
-/
namespace Go.Proofs.YtdikmlnpclklnaaGreatDoor.Slot
open Go Go.RowKit Go.Lib Go.Proofs.YtdikmlnpclklnaaGreatDoor.Law Go.Proofs.YtdikmlnpclklnaaGreatDoor.Disk

def low (x : Nat) : Bool := decide (97 ≤ x ∧ x ≤ 122)
/-- Is a slot's name right? -/
def rightS (s : ByteArray) : Bool := decide (1 ≤ s.size ∧ s.size ≤ 12) && (bytesS s).all low

set_option maxRecDepth 100000 in
set_option maxHeartbeats 2000000 in
theorem rightName_calls (s : ByteArray) (w : World) (hs63 : s.size ≤ 9223372036854775807) : Calls Tryz.prog 63 #[.string s] w (BoolB w (rightS s)) := by
  obtain ⟨r, hr⟩ : ∃ r, rightS s = r := ⟨_, rfl⟩
  rw [hr]
  have HR := Lib.hid hr
  clear hr
  by_cases h0 : s.size = 0
  · have hd : s.data = #[] := Array.eq_empty_of_size_eq_zero h0
    have hse : s = ⟨#[]⟩ := by cases s; simp only at hd; rw [hd]
    subst hse
    have hrr : r = false := by rw [← HR.out]; rfl
    subst hrr
    clear HR hd h0
    go_enter Tryz.func63, Tryz.ntmps63
    go_wp2
    go_ret
    exact ⟨rfl, Below.refl _ _⟩
  · have hem : s.toList.isEmpty = false := by
      rw [Lib.toList_data]
      cases hq : s.data.toList with
      | nil => exact absurd (by have : s.data.toList.length = 0 := by rw [hq]; rfl
                                rwa [Array.length_toList] at this) h0
      | cons a l => rfl
    by_cases h32 : 12 < s.size
    · have hrr : r = false := by rw [← HR.out, rightS, decide_eq_false (by omega)]; rfl
      subst hrr
      have h32I : 12 < (s.size : Int) := by omega
      clear HR
      go_enter Tryz.func63, Tryz.ntmps63
      go_wp2_with fail
      go_ret
      exact ⟨rfl, Below.refl _ _⟩
    · have hrr : (bytesS s).all low = r := by rw [← HR.out, rightS, decide_eq_true (by omega)]; rfl
      have HRR := Lib.hid hrr
      have h32I : (s.size : Int) ≤ 12 := by omega
      have hB : Below w.heap.size w (Lib.bytesWorld w 5 s) := ⟨rfl, rfl, rfl, by rw [Lib.bytesWorld_size]; omega, fun k hk => Lib.bytesWorld_at_old w _ s k hk⟩
      have HB := Lib.hid hB
      have hcv := Lib.run_convert_string_bytes (P := Tryz.prog) w 9 29 5 s Tryz.underlying9 Tryz.underlying29 Tryz.underlying5
      have HCV := Lib.hid hcv
      have hbl := bytesS_length s
      have HBL := Lib.hid hbl
      clear HR hrr hB hcv hbl
      go_enter Tryz.func63, Tryz.ntmps63
      go_wp2_with (refine wpList_exec_ran (o := ⟨some 13, _, _, _, _, _⟩) rfl (run_conv (HCV.out)) ?_)
      go_loopw [15] (fun i wr => ∃ k : Nat, i = .int .i64 k ∧ k ≤ s.size ∧ ((bytesS s).drop k).all low = r ∧ Lib.bytesWorld w 5 s = wr) (fun i _ => s.size - (intOf i).toNat)
      case atStart => exact ⟨0, rfl, Nat.zero_le _, by rw [List.drop_zero]; exact HRR.out, rfl⟩
      case round =>
        obtain ⟨k, rfl, hk, hall, rfl⟩ := hrel
        by_cases hlt : k < s.size
        · have hcell := Lib.bytesWorld_cell w 5 s k hlt
          rw [bytesS_get] at hcell
          obtain ⟨x, hx⟩ : ∃ x, (bytesS s)[k]? = some x := ⟨_, List.getElem?_eq_getElem (by rw [HBL.out]; exact hlt)⟩
          have hxd : (bytesS s).getD k 0 = x := by simp [List.getD, hx]
          have hx256 : x < 256 := bytesS_lt s x (List.mem_of_getElem? hx)
          rw [hxd] at hcell
          have hd : (bytesS s).drop k = x :: (bytesS s).drop (k + 1) := by
            obtain ⟨h1, h2⟩ := List.getElem?_eq_some_iff.1 hx
            rw [List.drop_eq_getElem_cons h1, h2]
          rw [hd, List.all_cons] at hall
          have HALL := Lib.hid hall
          clear hall hd hxd hx
          rcases (show (x < 97) ∨ (97 ≤ x ∧ x ≤ 122) ∨ (123 ≤ x) by omega) with hx | hx | hx
          · have i0 : (x : Int) < 97 := by omega
            have hok : low x = false := by unfold low; simp; omega
            have hrr : r = false := by have h := HALL.out; rw [hok, Bool.false_and] at h; exact h.symm
            subst hrr
            clear hok hx HALL
            go_wp2_with fail
            go_ret
            exact ⟨rfl, HB.out⟩
          · have i0 : ¬ (x : Int) < 97 := by omega
            have i1 : ¬ 122 < (x : Int) := by omega
            have hok : low x = true := by unfold low; simp; omega
            have hrest : ((bytesS s).drop (k + 1)).all low = r := by have h := HALL.out; rw [hok, Bool.true_and] at h; exact h
            have HREST := Lib.hid hrest
            clear hrest hok hx HALL
            go_wp2_with fail
            go_roundw
            case rel => exact ⟨k + 1, by go_num, by omega, HREST.out, trivial⟩
            case measure => simp [intOf]; omega
          · have i0 : ¬ (x : Int) < 97 := by omega
            have i1 : 122 < (x : Int) := by omega
            have hok : low x = false := by unfold low; simp; omega
            have hrr : r = false := by have h := HALL.out; rw [hok, Bool.false_and] at h; exact h.symm
            subst hrr
            clear hok hx HALL
            go_wp2_with fail
            go_ret
            exact ⟨rfl, HB.out⟩
        · obtain rfl : k = s.size := by omega
          have hr : r = true := by
            rw [← hall, List.drop_of_length_le (by rw [HBL.out]; omega)]; rfl
          subst hr
          clear hall
          go_wp2_with fail
          go_ret
          exact ⟨rfl, HB.out⟩

/-- A slot's block. -/
def SlotB (W : World) (sl db : Nat) (a b v : ByteArray) (n : Int) (sp : Nat) (bk : Bool) : Prop :=
  W.heap[sl]? = some (.cells #[.pointer (some ⟨db, 0, none⟩), .string a, .string b, .string v, .int .i64 n, .int .i64 (sp : Nat), .bool bk] 115 (0, 0))
theorem SlotB.cells {W : World} {sl db sp : Nat} {a b v : ByteArray} {n : Int} {bk : Bool} (h : SlotB W sl db a b v n sp bk) :
    (W.cell? ⟨sl, 0, none⟩ = some (.pointer (some ⟨db, 0, none⟩)) ∧ W.cell? ⟨sl, 1, none⟩ = some (.string a) ∧ W.cell? ⟨sl, 2, none⟩ = some (.string b) ∧ W.cell? ⟨sl, 3, none⟩ = some (.string v) ∧ W.cell? ⟨sl, 4, none⟩ = some (.int .i64 n) ∧ W.cell? ⟨sl, 5, none⟩ = some (.int .i64 (sp : Nat)) ∧ W.cell? ⟨sl, 6, none⟩ = some (.bool bk)) ∧
      ∀ i, W.frozen? ⟨sl, i, none⟩ = false := by
  unfold SlotB at h
  refine ⟨⟨?_, ?_, ?_, ?_, ?_, ?_, ?_⟩, fun i => ?_⟩ <;> simp [World.cell?, World.frozen?, h]
theorem SlotB.lt {W : World} {sl db sp : Nat} {a b v : ByteArray} {n : Int} {bk : Bool} (h : SlotB W sl db a b v n sp bk) : sl < W.heap.size := (Array.getElem?_eq_some_iff.1 h).1
theorem SlotB.below {W W' : World} {sl db sp : Nat} {a b v : ByteArray} {n : Int} {bk : Bool} (h : SlotB W sl db a b v n sp bk) (hB : Below W.heap.size W W') : SlotB W' sl db a b v n sp bk := (hB.block sl h.lt).trans h
theorem slot_set {w : World} {b : Nat} {cs : Array Value} {t : TypeId} {z : Nat × Nat} (h : w.heap[b]? = some (.cells cs t z)) (i : Nat) (v : Value) : (w.setCell ⟨b, i, none⟩ v).heap[b]? = some (.cells (cs.setIfInBounds i v) t z) := by
  simp [World.setCell, Array.getElem?_modify, h]

/-- Nothing but the block has turned. -/
structure Only (sl : Nat) (w W : World) : Prop where
  os : W.os = w.os
  tape : W.tape = w.tape
  output : W.output = w.output
  size : w.heap.size ≤ W.heap.size
  same : ∀ k, k < w.heap.size → k ≠ sl → W.heap[k]? = w.heap[k]?
theorem Only.set (w : World) (sl i : Nat) (v : Value) : Only sl w (w.setCell ⟨sl, i, none⟩ v) :=
  ⟨rfl, rfl, rfl, by simp [World.setCell], fun k _ hk => Below.heap_setCell _ _ _ k (by exact hk)⟩
theorem Only.trans {sl : Nat} {a b c : World} (h : Only sl a b) (k : Only sl b c) : Only sl a c :=
  ⟨k.os.trans h.os, k.tape.trans h.tape, k.output.trans h.output, Nat.le_trans h.size k.size, fun j hj hs => (k.same j (Nat.lt_of_lt_of_le hj h.size) hs).trans (h.same j hj hs)⟩
theorem Only.of_below {sl : Nat} {w W : World} (h : Below w.heap.size w W) : Only sl w W := ⟨h.os, h.tape, h.output, h.size, fun k hk _ => h.block k hk⟩

set_option maxRecDepth 100000 in
set_option maxHeartbeats 2000000 in
theorem take_calls (w : World) (sl db sp : Nat) (a b v : ByteArray) (n : Int) (bk : Bool) (h : SlotB w sl db a b v n sp bk) (v' : ByteArray) (n' : Int) (f : Nat) (hf : f ≤ 1) :
    Calls Tryz.prog 66 #[.pointer (some ⟨sl, 0, none⟩), .string v', .int .i64 n', .int .i64 (f : Nat)] w fun e W => e = .returned (.tuple #[]) ∧ SlotB W sl db a b v' n' (1 - f) bk ∧ Only sl w W := by
  obtain ⟨_, hz⟩ := h.cells
  have hz3 := hz 3
  have hz4 := hz 4
  have hz5 := hz 5
  obtain ⟨⟨_, _, _, k3, k4, k5, _⟩, _⟩ := h.cells
  have h1 := slot_set h 3 (.string v')
  have h2 := slot_set h1 4 (.int .i64 n')
  have h3 := slot_set h2 5 (.int .i64 ((1 - f : Nat) : Int))
  have hO := ((Only.set w sl 3 (.string v')).trans (Only.set _ sl 4 (.int .i64 n'))).trans (Only.set _ sl 5 (.int .i64 ((1 - f : Nat) : Int)))
  have HF : Hid (SlotB (((w.setCell ⟨sl, 3, none⟩ (.string v')).setCell ⟨sl, 4, none⟩ (.int .i64 n')).setCell ⟨sl, 5, none⟩ (.int .i64 ((1 - f : Nat) : Int))) sl db a b v' n' (1 - f) bk ∧ Only sl w (((w.setCell ⟨sl, 3, none⟩ (.string v')).setCell ⟨sl, 4, none⟩ (.int .i64 n')).setCell ⟨sl, 5, none⟩ (.int .i64 ((1 - f : Nat) : Int)))) := Lib.hid ⟨h3.trans (by simp), hO⟩
  clear h hz h1 h2 h3 hO
  obtain rfl | rfl : f = 0 ∨ f = 1 := by omega
  all_goals
    go_enter Tryz.func66, Tryz.ntmps66
    go_wp2_with fail
    go_end0
    exact ⟨rfl, HF.out⟩

set_option maxRecDepth 100000 in
set_option maxHeartbeats 2000000 in
theorem get_calls (w : World) (sl db sp : Nat) (a b v : ByteArray) (n : Int) (bk : Bool) (h : SlotB w sl db a b v n sp bk) :
    Calls Tryz.prog 31 #[.pointer (some ⟨sl, 0, none⟩)] w fun e W => e = .returned (.tuple #[.string v, .int .i64 n]) ∧ Below w.heap.size w W := by
  obtain ⟨⟨_, _, _, k3, k4, _, _⟩, _⟩ := h.cells
  clear h
  go_enter Tryz.func31, Tryz.ntmps31
  go_wp2_with fail
  go_quiet (fail)
  go_wp2_with fail
  go_ret2
  exact ⟨rfl, below_drewN (Below.refl _ _)⟩

set_option maxRecDepth 100000 in
set_option maxHeartbeats 2000000 in
theorem get_nil (w : World) : Calls Tryz.prog 31 #[.pointer none] w fun e W => e = .returned (.tuple #[.string ⟨#[]⟩, .int .i64 0]) ∧ Below w.heap.size w W := by
  go_enter Tryz.func31, Tryz.ntmps31
  go_wp2_with fail
  go_ret2
  exact ⟨rfl, Below.refl _ _⟩

/-- The name of the spare file. -/
def fileN (a b : ByteArray) (sp : Nat) : ByteArray := if sp = 0 then a else b

end Go.Proofs.YtdikmlnpclklnaaGreatDoor.Slot
