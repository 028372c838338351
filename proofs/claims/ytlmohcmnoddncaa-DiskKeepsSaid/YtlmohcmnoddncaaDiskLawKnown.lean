/-
  What the statements of layer 4 call besides: the chapter's example.
-/
import Derived.Test.YtlmohcmnoddncaaDiskDk
import Derived.Lib.SlBytesConst
namespace Go.Proofs.Ytlmohcmnoddncaa.Disk
open Go Go.RowKit Go.Lib Go.Proofs.Ytlmohcmnoddncaa.Law

def nameA : ByteArray := ⟨#[97]⟩
theorem short_a : Short nameA := by show nameA.size ≤ maxLen; decide

/-- The example's disk. -/
def exD : DS := (((((DS.fresh 100).write nameA (0 : Nat) (str [120, 121, 122])).sync nameA).write nameA (1 : Nat) (str [49, 50])).crash [1])

/-- Bytes that a call has just made. -/
theorem bytes_made (w : World) (bs : List Nat) (h : ∀ x ∈ bs, x < 256) (m : Nat × Nat) : Bytes (w.alloc (.cells (vals bs).toArray 5 m)).heap.size (w.alloc (.cells (vals bs).toArray 5 m)) (.slice (some ⟨w.heap.size, 0, none⟩) bs.length bs.length) bs :=
  ⟨_, _, rfl, Nat.le_refl _, (fun h => by cases h), h, fun _ => ⟨w.heap.size, 0, rfl, by simp, fun j hj => by
    rw [World.cell?_alloc_mark]
    have := vals_get bs j hj
    simpa using this⟩⟩

set_option maxRecDepth 100000 in
set_option maxHeartbeats 4000000 in
theorem known_law (w : World) : Calls Try.prog 8 #[] w fun e W => e = .returned (.bool true) ∧ Below w.heap.size w W := by
  have kc := fun (w : World) (C : Array Value) (n c : Nat) => Lib.run_convert_bytes_const (P := Try.prog) w 34 5 C n c Try.underlying34 Try.underlying5
  go_enter Try.func8, Try.ntmps8
  go_wp2_with fail
  refine (new_dk 100 (by decide) w w (Below.refl _ _)).mono ?_
  rintro e w1 ⟨db, rfl, hD⟩
  have HD := Lib.hid hD
  clear hD
  go_wp2_with fail
  have B1 : Bytes (w1.alloc (.cells #[.int .u8 120, .int .u8 121, .int .u8 122] 5 (3, 4))).heap.size (w1.alloc (.cells #[.int .u8 120, .int .u8 121, .int .u8 122] 5 (3, 4))) (.slice (some ⟨w1.heap.size, 0, none⟩) 3 3) [120, 121, 122] := bytes_made w1 [120, 121, 122] (by decide) (3, 4)
  have hc := (HD.out.below ((Below.refl _ _).alloc (Nat.le_refl _) (.cells #[.int .u8 120, .int .u8 121, .int .u8 122] 5 (3, 4)))).write (by decide) nameA (by decide) 0 (by decide) _ [120, 121, 122] (by decide) B1
  have e1 : (DS.fresh 100).writeN nameA 0 ([120, 121, 122] : List Nat).length = 0 := by decide +kernel
  rw [e1] at hc
  refine hc.mono ?_
  clear hc e1 B1 HD
  rintro e w2 ⟨rfl, hD⟩
  have HD := Lib.hid hD
  clear hD
  go_wp2_with fail
  have hc := HD.out.sync nameA (by decide)
  have e1 : ((DS.fresh 100).write nameA 0 (str [120, 121, 122])).syncN nameA = 0 := by decide +kernel
  rw [e1] at hc
  refine hc.mono ?_
  clear hc e1 HD
  rintro e w3 ⟨rfl, hD⟩
  have HD := Lib.hid hD
  clear hD
  go_wp2_with fail
  have B1 : Bytes (w3.alloc (.cells #[.int .u8 49, .int .u8 50] 5 (2, 3))).heap.size (w3.alloc (.cells #[.int .u8 49, .int .u8 50] 5 (2, 3))) (.slice (some ⟨w3.heap.size, 0, none⟩) 2 2) [49, 50] := bytes_made w3 [49, 50] (by decide) (2, 3)
  have hc := (HD.out.below ((Below.refl _ _).alloc (Nat.le_refl _) (.cells #[.int .u8 49, .int .u8 50] 5 (2, 3)))).write (by decide +kernel) nameA (by decide) 1 (by decide) _ [49, 50] (by decide) B1
  have e1 : (((DS.fresh 100).write nameA 0 (str [120, 121, 122])).sync nameA).writeN nameA 1 ([49, 50] : List Nat).length = 0 := by decide +kernel
  rw [e1] at hc
  refine hc.mono ?_
  clear hc e1 B1 HD
  rintro e w4 ⟨rfl, hD⟩
  have HD := Lib.hid hD
  clear hD
  go_wp2_with fail
  have hp : Ints (fun b => b < (w4.alloc (.cells #[.int .i64 1] 3)).heap.size ∧ (b < w.heap.size ∨ w4.heap.size ≤ b)) (w4.alloc (.cells #[.int .i64 1] 3)) (.slice (some ⟨w4.heap.size, 0, none⟩) 1 1) [1] :=
    ⟨_, 1, rfl, Nat.le_refl _, fun _ => ⟨w4.heap.size, 0, rfl, ⟨by simp, .inr (Nat.le_refl _)⟩, fun j hj => by
      obtain rfl : j = 0 := by simp at hj; omega
      simp⟩⟩
  have hc := HD.out.crash ((Below.refl _ _).alloc (Nat.le_refl _) (.cells #[.int .i64 1] 3)) (by decide +kernel) _ [1] hp
  refine hc.mono ?_
  clear hc hp HD
  rintro e w5 ⟨rfl, hD⟩
  have HD : Hid (Dk w db exD w5) := Lib.hid hD
  clear hD
  go_wp2_with fail
  refine (HD.out.read nameA short_a).mono ?_
  have e1 : exD.now nameA = some [120, 49, 122] := by decide +kernel
  rw [e1]
  rintro e w6 ⟨⟨v, rfl, hO, hB⟩, hD6⟩
  have hO : OwnB w6 w5.heap.size 5 v [120, 49, 122] := hO
  have hcv := run_string_bytes (P := Try.prog) w6 Try.underlying34 Try.underlying5 Try.underlying9 hO.bytes
  have hst : str [120, 49, 122] = ⟨#[120, 49, 122]⟩ := by decide
  rw [hst] at hcv
  obtain ⟨A, c, hv⟩ := hO.bytes.form
  have hv : v = .slice A 3 c := hv
  subst hv
  have CP := Lib.hid (hD6.pending (by decide +kernel))
  have e2 : exD.chs.length = 0 := by decide +kernel
  rw [e2] at CP
  clear hO hB hD6 HD e1 e2 hst
  go_wp2_with fail
  refine CP.out.mono ?_
  rintro e w7 ⟨rfl, hD7⟩
  have hL := hD7.low
  clear hD7 CP
  go_wp2_with fail
  go_ret
  exact ⟨rfl, hL⟩

end Go.Proofs.Ytlmohcmnoddncaa.Disk
