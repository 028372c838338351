/-
  The statements' own 'known' of layer 10 answers true.
-/
import Derived.Test.YtonaclpebakemaaFoldAll
namespace Go.Proofs.Ytonaclpebakemaa.Fold
open Go Go.RowKit Go.Proofs.Ytonaclpebakemaa.Law

abbrev RetT (b : Bool) (w : World) (e : Ending) (w' : World) : Prop := e = .returned (.bool b) ∧ Below w.heap.size w w'

theorem kA : alN 0 [4294967295, 2] = (1, true) := by decide +kernel
theorem kM : mpN 3 33 8 = 4 := by decide +kernel
theorem kT : tsN 3 0 0 = false := by decide +kernel
theorem kS : stN 1 9 = 1 := by decide +kernel

set_option maxRecDepth 100000 in
set_option maxHeartbeats 1000000 in
theorem known_calls (w : World) : Calls Try.prog 7 #[] w (RetT true w) := by
  have HA := Lib.hid fun (W : World) (v : Value) (hI : OldU W.heap.size W v [4294967295, 2]) => all_calls 0 [4294967295, 2] (by decide) (by decide) v W hI
  have HM := Lib.hid fun (W : World) => map_calls 3 33 8 (by decide) (by decide) W
  have HT := Lib.hid fun (W : World) => test_calls 3 0 0 (by decide) (by decide) W
  have HS := Lib.hid fun (W : World) => start_calls 1 9 W
  rw [kA] at HA
  rw [kM] at HM
  rw [kT] at HT
  rw [kS] at HS
  have hO := (OwnRow.lit (f := u32V) 22 w w.heap.size #[.int .u32 4294967295, .int .u32 2] [4294967295, 2] 2 (Nat.le_refl _) rfl (by decide) rfl).old
  have HO := Lib.hid hO
  have hB0 := (Below.refl w.heap.size w).alloc (Nat.le_refl _) (.cells #[.int .u32 4294967295, .int .u32 2] 22)
  have HB := Lib.hid hB0
  clear hO hB0
  go_enter Try.func7, Try.ntmps7
  go_wp2_with fail
  refine (HA.out _ _ HO.out).mono ?_
  rintro e w1 ⟨rfl, rfl⟩
  go_wp2_with fail
  refine (HM.out _).mono ?_
  rintro e w2 ⟨rfl, rfl⟩
  go_wp2_with fail
  refine (HT.out _).mono ?_
  rintro e w2 ⟨rfl, rfl⟩
  go_wp2_with fail
  refine (HS.out _).mono ?_
  rintro e w2 ⟨rfl, rfl⟩
  go_wp2_with fail
  go_ret
  exact ⟨rfl, HB.out⟩

end Go.Proofs.Ytonaclpebakemaa.Fold
