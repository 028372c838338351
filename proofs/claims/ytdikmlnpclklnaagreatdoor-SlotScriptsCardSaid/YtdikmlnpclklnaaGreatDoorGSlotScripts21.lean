/-
  Put together out of texts of one chain: what they hold stands ahead of each.
-/
import Derived.Test.YtdikmlnpclklnaaGreatDoorGSlotScripts20
import Derived.Deep.RegionWith
import Derived.WalkMore
import Derived.Deep.LoopGhost
import Derived.Test.YtdikmlnpclklnaaGreatDoorGSlotScripts11
/-
  Contracts of slot's Open on a disk that has none of the slot's files.
-/
namespace Go.Proofs.YtdikmlnpclklnaaGreatDoor.Slot
open Go Go.RowKit Go.Lib Go.Proofs.YtdikmlnpclklnaaGreatDoor.Law Go.Proofs.YtdikmlnpclklnaaGreatDoor.Disk

theorem next_none : Frame.nextN [] 0 = ([], 0, 5) := by
  unfold Frame.nextN; exact Frame.readN_end1 (by simp)

set_option maxRecDepth 100000 in
set_option maxHeartbeats 4000000 in
theorem read_none (w W : World) (sl db : Nat) (D : DS) (a b v : ByteArray) (n : Int) (sp : Nat) (bk : Bool) (hD : Dx (fun k => k = sl) w db D W) (hS : SlotB W sl db a b v n sp bk) (hT : Crc.Tab W) (ha : a.size ≤ 14) (hb : b.size ≤ 14) (f : Nat) (hf : f ≤ 1) (h0 : D.now (fileN a b f) = none) :
    Calls Tryz.prog 94 #[.pointer (some ⟨sl, 0, none⟩), .int .i64 (f : Nat)] W fun e W' => e = .returned (.slice none 0 0) ∧ Below W.heap.size W W' := by
  have CR : Hid (∀ W0, Below W.heap.size W W0 → Calls Tryz.prog 12 #[.pointer (some ⟨db, 0, none⟩), .string (fileN a b f)] W0 fun e W1 => ∃ A c, e = .returned (.tuple #[.slice A 0 c, .bool false]) ∧ Hid (Bytes W1.heap.size W1 (.slice A 0 c) [] ∧ Below W.heap.size W W1)) := Lib.hid fun W0 hB0 => by
    have hnm : (fileN a b f).size ≤ 14 := by unfold fileN; split <;> assumption
    have h := (hD.below hB0).read (fileN a b f) (by show (fileN a b f).size ≤ maxLen; simp only [maxLen]; omega)
    rw [h0] at h
    refine h.mono ?_
    rintro e W1 ⟨v1, rfl, hO, hB1⟩
    have hbt : Bytes W1.heap.size W1 v1 [] := hO.bytes
    obtain ⟨A, c, rfl⟩ := hbt.form
    exact ⟨A, c, rfl, Lib.hid ⟨hbt, hB0.trans (hB1.mono hB0.size)⟩⟩
  have CN : Hid (∀ W1 A c, Bytes W1.heap.size W1 (.slice A 0 c) [] → Below W.heap.size W W1 → Calls Tryz.prog 104 #[.slice A 0 c, .int .i64 0] W1 fun e W2 => ∃ A2 c2, e = .returned (.tuple #[.slice A2 0 c2, .int .i64 0, .int .i64 5]) ∧ Below W.heap.size W W2) := Lib.hid fun W1 A c hI hB => by
    refine (Frame.next_at _ [] (by simp) 0 (Nat.le_refl _) W1 (hT.below hB) hI).mono ?_
    rintro e W2 ⟨v2, rfl, hO, hB2⟩
    rw [next_none] at hO ⊢
    obtain ⟨A2, c2, rfl⟩ := hO.bytes.form
    exact ⟨A2, c2, rfl, hB.trans (hB2.mono hB.size)⟩
  obtain ⟨⟨k0, k1, k2, _⟩, _⟩ := hS.cells
  have HBD : Hid (Below W.heap.size W W.drew) := Lib.hid (Below.refl _ _).drew
  clear hD hS hT h0
  obtain rfl | rfl : f = 0 ∨ f = 1 := by omega
  all_goals
    unfold fileN at CR
    simp only [if_true, Nat.one_ne_zero, if_false] at CR
    go_enter Tryz.func94, Tryz.ntmps94
    go_wp2_with fail
    go_region_with (go_at_call 12; ((with_reducible refine (CR.out _ HBD.out).mono ?_); rintro e W1 ⟨A1, c1, rfl, H1⟩))
    all_goals
      have CN1 := Lib.hid (CN.out W1 A1 c1 H1.out.1 H1.out.2)
      clear CN CR H1
      go_wp2_with fail
      refine CN1.out.mono ?_
      rintro e W2 ⟨A2, c2, rfl, hB2⟩
      have HB2 := Lib.hid hB2
      clear hB2 CN1
      go_wp2_with fail
      go_ret
      exact ⟨rfl, HB2.out⟩

set_option maxRecDepth 100000 in
set_option maxHeartbeats 4000000 in
theorem look_none (w W : World) (sl db : Nat) (D : DS) (a b v : ByteArray) (n : Int) (sp : Nat) (bk : Bool) (hD : Dx (fun k => k = sl) w db D W) (hS : SlotB W sl db a b v n sp bk) (hT : Crc.Tab W) (ha : a.size ≤ 14) (hb : b.size ≤ 14) (h0 : D.now a = none) (h1 : D.now b = none) :
    Calls Tryz.prog 64 #[.pointer (some ⟨sl, 0, none⟩)] W fun e W' => e = .returned (.tuple #[]) ∧ Below W.heap.size W W' := by
  have CR : Hid (∀ (f : Nat) W0, f ≤ 1 → Below W.heap.size W W0 → Calls Tryz.prog 94 #[.pointer (some ⟨sl, 0, none⟩), .int .i64 (f : Nat)] W0 fun e W' => e = .returned (.slice none 0 0) ∧ Below W0.heap.size W0 W') := Lib.hid fun f W0 hf hB => by
    refine read_none w W0 sl db D a b v n sp bk (hD.below hB) (hS.below hB) (hT.below hB) ha hb f hf ?_
    unfold fileN; split <;> assumption
  clear hD hS hT h0 h1 ha hb
  go_enter Tryz.func64, Tryz.ntmps64
  go_wp2_with fail
  go_step3
  go_wp2_with fail
  go_step3
  go_wp2_with fail
  go_loopw [7] (fun i wr => ∃ k : Nat, i = .int .i64 k ∧ k ≤ 2 ∧ Hid (Below W.heap.size W wr)) (fun i _ => 2 - (intOf i).toNat)
  case atStart => exact ⟨0, rfl, by omega, Lib.hid (Below.refl _ _)⟩
  case round =>
    obtain ⟨k, rfl, hk, HB⟩ := hrel
    by_cases hlt : k < 2
    · have hkI : (k : Int) < 2 := by omega
      have CR1 := Lib.hid (CR.out k wr (by omega) HB.out)
      go_wp2_with fail
      refine CR1.out.mono ?_
      rintro e W1 ⟨rfl, hB1⟩
      have HB1 : Hid (Below W.heap.size W W1) := Lib.hid (HB.out.trans (hB1.mono HB.out.size))
      clear hB1 CR1
      go_wp2_with fail
      go_roundw
      case rel => exact ⟨k + 1, by go_num, by omega, HB1⟩
      case measure => simp [intOf]; omega
    · obtain rfl : k = 2 := by omega
      go_wp2_with fail
      rw [Exit.noGoto_normal]
      go_end0
      exact ⟨rfl, HB.out⟩

theorem open_nil (s : ByteArray) (w : World) : Calls Tryz.prog 28 #[.pointer none, .string s] w fun e W => e = .returned (.tuple #[.pointer none, .int .i64 9]) ∧ Below w.heap.size w W := by
  go_enter Tryz.func28, Tryz.ntmps28
  go_wp2_with fail
  go_ret2
  exact ⟨rfl, Below.refl _ _⟩

set_option maxRecDepth 100000 in
set_option maxHeartbeats 2000000 in
theorem open_bad (db : Nat) (s : ByteArray) (hs63 : s.size ≤ 9223372036854775807) (h : rightS s = false) (w : World) : Calls Tryz.prog 28 #[.pointer (some ⟨db, 0, none⟩), .string s] w fun e W => e = .returned (.tuple #[.pointer none, .int .i64 1]) ∧ Below w.heap.size w W := by
  have CR := rightName_calls s w hs63
  rw [h] at CR
  have CR := Lib.hid CR
  go_enter Tryz.func28, Tryz.ntmps28
  go_wp2_with fail
  refine CR.out.mono ?_
  rintro e W ⟨rfl, hB⟩
  have HB := Lib.hid hB
  clear hB
  go_wp2_with fail
  go_ret2
  exact ⟨rfl, HB.out⟩

/-- The two files' names. -/
def nameA (s : ByteArray) : ByteArray := s ++ ⟨#[45, 97]⟩
def nameB (s : ByteArray) : ByteArray := s ++ ⟨#[45, 98]⟩
theorem right_le {s : ByteArray} (h : rightS s = true) : 1 ≤ s.size ∧ s.size ≤ 12 := by
  unfold rightS at h
  simp only [Bool.and_eq_true, decide_eq_true_eq] at h
  exact h.1

/-- What Open leaves. -/
def OpenO (w : World) (db : Nat) (D : DS) (s v : ByteArray) (n : Int) (sp : Nat) (e : Ending) (W : World) : Prop :=
  ∃ sl, e = .returned (.tuple #[.pointer (some ⟨sl, 0, none⟩), .int .i64 0]) ∧ Dx (fun k => k = sl) w db D W ∧ SlotB W sl db (nameA s) (nameB s) v n sp false

set_option maxRecDepth 100000 in
set_option maxHeartbeats 2000000 in
theorem open_none (w W : World) (db : Nat) (D : DS) (hD : Dk w db D W) (hT : Crc.Tab W) (s : ByteArray) (h : rightS s = true) (h0 : D.now (nameA s) = none) (h1 : D.now (nameB s) = none) :
    Calls Tryz.prog 28 #[.pointer (some ⟨db, 0, none⟩), .string s] W (OpenO w db D s ⟨#[]⟩ 0 0) := by
  have hsz := right_le h
  have CR := rightName_calls s W (by omega)
  rw [h] at CR
  have CR := Lib.hid CR
  have HMK : Hid (∀ W1, Below W.heap.size W W1 → Dx (fun k => k = W1.heap.size) w db D (W1.alloc (.cells #[.pointer (some ⟨db, 0, none⟩), .string (nameA s), .string (nameB s), .string ⟨#[]⟩, .int .i64 0, .int .i64 0, .bool false] 115)) ∧
      SlotB (W1.alloc (.cells #[.pointer (some ⟨db, 0, none⟩), .string (nameA s), .string (nameB s), .string ⟨#[]⟩, .int .i64 0, .int .i64 0, .bool false] 115)) W1.heap.size db (nameA s) (nameB s) ⟨#[]⟩ 0 0 false ∧
      Calls Tryz.prog 64 #[.pointer (some ⟨W1.heap.size, 0, none⟩)] (W1.alloc (.cells #[.pointer (some ⟨db, 0, none⟩), .string (nameA s), .string (nameB s), .string ⟨#[]⟩, .int .i64 0, .int .i64 0, .bool false] 115)) fun e W' => e = .returned (.tuple #[]) ∧ Below (W1.alloc (.cells #[.pointer (some ⟨db, 0, none⟩), .string (nameA s), .string (nameB s), .string ⟨#[]⟩, .int .i64 0, .int .i64 0, .bool false] 115)).heap.size (W1.alloc (.cells #[.pointer (some ⟨db, 0, none⟩), .string (nameA s), .string (nameB s), .string ⟨#[]⟩, .int .i64 0, .int .i64 0, .bool false] 115)) W') := Lib.hid fun W1 hB1 => by
    have hB2 : Below W1.heap.size W1 (W1.alloc (.cells #[.pointer (some ⟨db, 0, none⟩), .string (nameA s), .string (nameB s), .string ⟨#[]⟩, .int .i64 0, .int .i64 0, .bool false] 115)) := (Below.refl _ _).alloc (Nat.le_refl _) _
    have hsz2 : (W1.alloc (.cells #[.pointer (some ⟨db, 0, none⟩), .string (nameA s), .string (nameB s), .string ⟨#[]⟩, .int .i64 0, .int .i64 0, .bool false] 115)).heap.size = W1.heap.size + 1 := by simp
    have hx : SlotB (W1.alloc (.cells #[.pointer (some ⟨db, 0, none⟩), .string (nameA s), .string (nameB s), .string ⟨#[]⟩, .int .i64 0, .int .i64 0, .bool false] 115)) W1.heap.size db (nameA s) (nameB s) ⟨#[]⟩ 0 0 false := by
      show (W1.alloc _).heap[W1.heap.size]? = _
      simp only [World.alloc, Array.getElem?_push_size]
      rfl
    obtain ⟨W2, hW2⟩ : ∃ W2, W1.alloc (.cells #[.pointer (some ⟨db, 0, none⟩), .string (nameA s), .string (nameB s), .string ⟨#[]⟩, .int .i64 0, .int .i64 0, .bool false] 115) = W2 := ⟨_, rfl⟩
    rw [hW2] at hB2 hsz2 hx ⊢
    have hd1 := (Dx.of hD).below hB1
    have hd := hd1.add hB2
    have hd2 : Dx (fun k => k = W1.heap.size) w db D W2 := by
      obtain ⟨O, e1, e2, e3, e4, e5⟩ := hd
      exact ⟨O, e1, e2, e3, e4, fun k hk => e5 k (.inr (by omega))⟩
    have ha : (nameA s).size ≤ 14 := by show (s ++ _).size ≤ _; rw [ByteArray.size_append]; have : (⟨#[45, 97]⟩ : ByteArray).size = 2 := rfl; omega
    have hb : (nameB s).size ≤ 14 := by show (s ++ _).size ≤ _; rw [ByteArray.size_append]; have : (⟨#[45, 98]⟩ : ByteArray).size = 2 := rfl; omega
    exact ⟨hd2, hx, look_none w W2 W1.heap.size db D _ _ _ 0 0 false hd2 hx ((hT.below hB1).below hB2) ha hb h0 h1⟩
  have hA : s ++ ⟨#[45, 97]⟩ = nameA s := rfl
  have hBn : s ++ ⟨#[45, 98]⟩ = nameB s := rfl
  have q1 : (s.size : Int) + 2 ≤ 9223372036854775807 := by omega
  have q2 : ¬ 9223372036854775807 < (s.size : Int) + 2 := by omega
  have q3 : s.size + 2 ≤ 9223372036854775807 := by omega
  have q4 : ¬ (((s.size + 2 : Nat) : Int) > IntKind.i64.max) := by simp [IntKind.max, IntKind.signed, IntKind.bits]; omega
  clear hD hT h0 h1 h hsz
  go_enter Tryz.func28, Tryz.ntmps28
  go_wp2_with fail
  refine CR.out.mono ?_
  rintro e W1 ⟨rfl, hB1⟩
  have HM := Lib.hid (HMK.out W1 hB1)
  clear hB1 HMK CR
  go_wp2_with fail
  refine HM.out.2.2.mono ?_
  rintro e W2 ⟨rfl, hB2⟩
  have HF : Hid (OpenO w db D s ⟨#[]⟩ 0 0 (.returned (.tuple #[.pointer (some ⟨W1.heap.size, 0, none⟩), .int .i64 0])) W2) := Lib.hid ⟨W1.heap.size, rfl, HM.out.1.below hB2, HM.out.2.1.below hB2⟩
  clear hB2 HM
  go_wp2_with fail
  go_ret2
  exact HF.out

end Go.Proofs.YtdikmlnpclklnaaGreatDoor.Slot
