/-
  The walk of the law FoldAlls.
-/
import Derived.Test.YtonaclpebakemaaFoldKnown
namespace Go.Proofs.Ytonaclpebakemaa.Fold
open Go Go.RowKit Go.Proofs.Ytonaclpebakemaa.Law

set_option maxRecDepth 100000 in
set_option maxHeartbeats 2000000 in
theorem foldAlls_law (x : Int) (l : List Nat) (hl : ∀ v ∈ l, v < 4294967296) (hlen : l.length ≤ maxLen) (sv : Value) (w : World) (hI : OldU w.heap.size w sv l) :
    Calls Try.prog 4 #[.int .i64 x, sv] w (RetT true w) := by
  have C1 := Lib.hid (all_calls x l hl hlen sv w hI)
  have C2 := Lib.hid (refAll_calls x l hl hlen sv w hI)
  obtain ⟨A, cap, rfl, _⟩ := hI.form
  obtain ⟨⟨y, o⟩, hr⟩ : ∃ r, alN x l = r := ⟨_, rfl⟩
  rw [hr] at C1 C2
  clear hr hI
  have hqq : (o == o) = true := by cases o <;> rfl
  go_enter Try.func4, Try.ntmps4
  go_wp2_with fail
  refine C1.out.mono ?_
  rintro e w' ⟨rfl, rfl⟩
  go_wp2_with fail
  refine C2.out.mono ?_
  rintro e w' ⟨rfl, rfl⟩
  go_wp2_with fail
  refine (known_calls w).mono ?_
  rintro e w1 ⟨rfl, B1⟩
  have HB := Lib.hid B1
  clear B1
  go_wp2_with fail
  go_ret
  exact ⟨rfl, HB.out⟩

end Go.Proofs.Ytonaclpebakemaa.Fold
