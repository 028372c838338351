/-
  Contracts of the disk's calls on a nil disk.
-/
import Derived.Test.YtlmohcmnoddncaaDiskDk
namespace Go.Proofs.Ytlmohcmnoddncaa.Disk
open Go Go.RowKit Go.Lib Go.Proofs.Ytlmohcmnoddncaa.Law

def NilErr (w : World) (e : Ending) (W : World) : Prop := e = .returned (.int .i64 9) ∧ Below w.heap.size w W

set_option maxRecDepth 100000 in
theorem write_nil (s : ByteArray) (k : Int) (A : Option Addr) (n c : Nat) (w : World) : Calls Try.prog 21 #[.pointer none, .string s, .int .i64 k, .slice A n c] w (NilErr w) := by
  have CR := Lib.hid (refusal_nil s k)
  go_enter Try.func21, Try.ntmps21
  go_wp2_with fail
  refine (CR.out _).mono ?_
  rintro e W ⟨rfl, hB⟩
  have HB := Lib.hid hB
  clear hB
  go_wp2_with fail
  go_ret
  exact ⟨rfl, HB.out⟩
set_option maxRecDepth 100000 in
theorem cut_nil (s : ByteArray) (k : Int) (w : World) : Calls Try.prog 24 #[.pointer none, .string s, .int .i64 k] w (NilErr w) := by
  have CR := Lib.hid (refusal_nil s k)
  go_enter Try.func24, Try.ntmps24
  go_wp2_with fail
  refine (CR.out _).mono ?_
  rintro e W ⟨rfl, hB⟩
  have HB := Lib.hid hB
  clear hB
  go_wp2_with fail
  go_ret
  exact ⟨rfl, HB.out⟩
set_option maxRecDepth 100000 in
theorem remove_nil (s : ByteArray) (w : World) : Calls Try.prog 25 #[.pointer none, .string s] w (NilErr w) := by
  have CR := Lib.hid (refusal_nil s 0)
  go_enter Try.func25, Try.ntmps25
  go_wp2_with fail
  refine (CR.out _).mono ?_
  rintro e W ⟨rfl, hB⟩
  have HB := Lib.hid hB
  clear hB
  go_wp2_with fail
  go_ret
  exact ⟨rfl, HB.out⟩
set_option maxRecDepth 100000 in
theorem sync_nil (s : ByteArray) (w : World) : Calls Try.prog 13 #[.pointer none, .string s] w (NilErr w) := by
  have CR := Lib.hid (refusal_nil s 0)
  go_enter Try.func13, Try.ntmps13
  go_wp2_with fail
  refine (CR.out _).mono ?_
  rintro e W ⟨rfl, hB⟩
  have HB := Lib.hid hB
  clear hB
  go_wp2_with fail
  go_ret
  exact ⟨rfl, HB.out⟩
set_option maxRecDepth 100000 in
theorem limit_nil (k : Int) (w : World) : Calls Try.prog 26 #[.pointer none, .int .i64 k] w (NilErr w) := by
  go_enter Try.func26, Try.ntmps26
  go_wp2_with fail
  go_ret
  exact ⟨rfl, Below.refl _ _⟩
set_option maxRecDepth 100000 in
theorem copy_nil (w : World) : Calls Try.prog 19 #[.pointer none] w fun e W => e = .returned (.pointer none) ∧ Below w.heap.size w W := by
  go_enter Try.func19, Try.ntmps19
  go_wp2_with fail
  go_ret
  exact ⟨rfl, Below.refl _ _⟩
set_option maxRecDepth 100000 in
theorem used_nil (w : World) : Calls Try.prog 27 #[.pointer none] w fun e W => e = .returned (.int .i64 0) ∧ Below w.heap.size w W := by
  go_enter Try.func27, Try.ntmps27
  go_wp2_with fail
  go_ret
  exact ⟨rfl, Below.refl _ _⟩
set_option maxRecDepth 100000 in
theorem fail_nil (b : Bool) (w : World) : Calls Try.prog 12 #[.pointer none, .bool b] w fun e W => e = .returned (.tuple #[]) ∧ Below w.heap.size w W := by
  go_enter Try.func12, Try.ntmps12
  go_wp2_with fail
  go_end0
  exact ⟨rfl, Below.refl _ _⟩
set_option maxRecDepth 100000 in
theorem crash_nil (A : Option Addr) (n c : Nat) (w : World) : Calls Try.prog 15 #[.pointer none, .slice A n c] w fun e W => e = .returned (.tuple #[]) ∧ Below w.heap.size w W := by
  go_enter Try.func15, Try.ntmps15
  go_wp2_with fail
  exact bodyPost_ret (results_none rfl _ _ _) rfl ⟨rfl, (Below.refl _ _).alloc (Nat.le_refl _) _⟩
set_option maxRecDepth 100000 in
set_option maxHeartbeats 2000000 in
theorem read_nil (s : ByteArray) (w : World) : Calls Try.prog 14 #[.pointer none, .string s] w (ReadD w none) := by
  have CK : Hid (Calls Try.prog 40 #[.pointer none, .string s] w (KnownOut w (.agg #[.bool false, .slice none 0 0, .bool false, .slice none 0 0, .bool false, .slice none 0 0]))) := Lib.hid (known_nil s w)
  have CR : Hid (∀ W, Below w.heap.size w W → Calls Try.prog 41 #[.agg #[.bool false, .slice none 0 0]] W fun e W2 => ∃ A n c, e = .returned (.tuple #[.slice A n c, .bool false]) ∧ Hid (ReadD w none e W2)) := Lib.hid fun W hB => by
    have e := read_calls false (.slice none 0 0) [] (by decide) W (Buf.bytes (Buf.nil W 0 5))
    refine e.mono ?_
    intro e W2 hr
    obtain ⟨v', rfl, hO, _⟩ := id hr
    obtain ⟨A, c, rfl⟩ := hO.bytes.form
    exact ⟨A, _, c, rfl, Lib.hid (readD_of hB hr)⟩
  have q0 := field_now false false false none none none 0 0 0 0 0 0
  go_enter Try.func14, Try.ntmps14
  go_wp2_with fail
  refine CK.out.mono ?_
  rintro e W ⟨rfl, hB⟩
  have cR := CR.out W hB
  have CRR := Lib.hid cR
  clear cR hB
  go_wp2_with fail
  refine CRR.out.mono ?_
  rintro e W2 ⟨A, n, c, rfl, HR⟩
  go_wp2_with fail
  go_ret2
  exact HR.out

end Go.Proofs.Ytlmohcmnoddncaa.Disk
