/-
  Contracts of cmp.Compare at texts and at numbers, of cmp.Or, and of the comparison by which Order sorts.
-/
import Derived.Test.YtmfndimejnbgkaaModelPass
import Derived.Shelf.SlSortCmp.WholeK
import Derived.Shelf.SlSortCmp.NoneTotal
import Derived.Ground.SlsfProg
import Derived.Test.YtmfndimejnbgkaaModelLay
namespace Go.Proofs.Ytmfndimejnbgkaa.Model
open Go Go.RowKit Go.Lib Go.Sort Go.Shelf Go.Proofs.Ytmfndimejnbgkaa.Law Go.Proofs.Ytmfndimejnbgkaa.Graph Go.Proofs.Ytmfndimejnbgkaa.Fold

/-- An int, in the same world. -/
abbrev RetI (z : Int) (w : World) (e : Ending) (w' : World) : Prop := e = .returned (.int .i64 z) ∧ w = w'
def cmpS (a b : ByteArray) : Int := if ltN a b then -1 else if ltN b a then 1 else 0
def cmpU (a b : Nat) : Int := if a < b then -1 else if b < a then 1 else 0

set_option maxHeartbeats 400000 in
theorem nanS_calls (a : ByteArray) (w : World) : Calls Try.prog 118 #[.string a] w (Graph.RetBo false w) := by
  have h : (a == a) = true := beq_self_eq_true _
  have h2 : (a != a) = false := by simp [bne]
  go_enter Try.func118, Try.ntmps118
  go_wp2_with fail
  go_ret
  exact ⟨rfl, rfl⟩
set_option maxHeartbeats 400000 in
theorem nanU_calls (a : Nat) (w : World) : Calls Try.prog 119 #[.int .u32 (a : Nat)] w (Graph.RetBo false w) := by
  have h2 : ((a : Int) != (a : Int)) = false := by simp [bne]
  go_enter Try.func119, Try.ntmps119
  go_wp2_with fail
  go_ret
  exact ⟨rfl, rfl⟩

set_option maxRecDepth 100000 in
set_option maxHeartbeats 1000000 in
theorem cmpS_calls (a b : ByteArray) (w : World) : Calls Try.prog 72 #[.string a, .string b] w (RetI (cmpS a b) w) := by
  have C1 := Lib.hid (nanS_calls a w)
  have C2 := Lib.hid (nanS_calls b w)
  unfold cmpS ltN
  cases h1 : Op.bytesLess a.toList b.toList with
  | true =>
    go_enter Try.func72, Try.ntmps72
    go_wp2_with fail
    refine C1.out.mono ?_
    rintro e w2 ⟨rfl, rfl⟩
    go_wp2_with fail
    refine C2.out.mono ?_
    rintro e w2 ⟨rfl, rfl⟩
    go_wp2_with fail
    go_ret
    exact ⟨rfl, rfl⟩
  | false =>
    cases h2 : Op.bytesLess b.toList a.toList with
    | true =>
      have hne : (a == b) = false := by
        rw [beq_eq_false_iff_ne]
        rintro rfl
        rw [h1] at h2; cases h2
      have hne2 : (a.toList == b.toList) = false := by
        rw [beq_eq_false_iff_ne]
        intro e
        rw [e] at h1 h2
        rw [h1] at h2; cases h2
      go_enter Try.func72, Try.ntmps72
      go_wp2_with fail
      refine C1.out.mono ?_
      rintro e w2 ⟨rfl, rfl⟩
      go_wp2_with fail
      refine C2.out.mono ?_
      rintro e w2 ⟨rfl, rfl⟩
      go_wp2_with fail
      go_ret
      exact ⟨rfl, rfl⟩
    | false =>
      have he : a = b := Decidable.byContradiction fun hne => by
        have h3 : ltN b a = true := ltN_total h1 hne
        rw [ltN, h2] at h3; cases h3
      subst he
      have hq : (a.toList == a.toList) = true := beq_self_eq_true _
      go_enter Try.func72, Try.ntmps72
      go_wp2_with fail
      refine C1.out.mono ?_
      rintro e w2 ⟨rfl, rfl⟩
      go_wp2_with fail
      refine C2.out.mono ?_
      rintro e w2 ⟨rfl, rfl⟩
      go_wp2_with fail
      go_ret
      exact ⟨rfl, rfl⟩

set_option maxRecDepth 100000 in
set_option maxHeartbeats 1000000 in
theorem cmpU_calls (a b : Nat) (w : World) : Calls Try.prog 73 #[.int .u32 (a : Nat), .int .u32 (b : Nat)] w (RetI (cmpU a b) w) := by
  have C1 := Lib.hid (nanU_calls a w)
  have C2 := Lib.hid (nanU_calls b w)
  unfold cmpU
  by_cases h1 : a < b
  · rw [if_pos h1]
    go_enter Try.func73, Try.ntmps73
    go_wp2_with fail
    refine C1.out.mono ?_
    rintro e w2 ⟨rfl, rfl⟩
    go_wp2_with fail
    refine C2.out.mono ?_
    rintro e w2 ⟨rfl, rfl⟩
    go_wp2_with fail
    go_ret
    exact ⟨rfl, rfl⟩
  · rw [if_neg h1]
    have h1' : b ≤ a := by omega
    by_cases h2 : b < a
    · rw [if_pos h2]
      go_enter Try.func73, Try.ntmps73
      go_wp2_with fail
      refine C1.out.mono ?_
      rintro e w2 ⟨rfl, rfl⟩
      go_wp2_with fail
      refine C2.out.mono ?_
      rintro e w2 ⟨rfl, rfl⟩
      go_wp2_with fail
      go_ret
      exact ⟨rfl, rfl⟩
    · rw [if_neg h2]
      have h2' : a ≤ b := by omega
      go_enter Try.func73, Try.ntmps73
      go_wp2_with fail
      refine C1.out.mono ?_
      rintro e w2 ⟨rfl, rfl⟩
      go_wp2_with fail
      refine C2.out.mono ?_
      rintro e w2 ⟨rfl, rfl⟩
      go_wp2_with fail
      go_ret
      exact ⟨rfl, rfl⟩

/-- The first that isn't 0. -/
theorem or_calls (x y : Int) (b : Nat) (T : TypeId) (fr : Nat × Nat) (w : World) (h : w.heap[b]? = some (.cells #[.int .i64 x, .int .i64 y] T fr)) :
    Calls Try.prog 71 #[.slice (some ⟨b, 0, none⟩) 2 2] w (RetI (if x = 0 then y else x) w) := by
  have c0 : w.cell? ⟨b, 0, none⟩ = some (.int .i64 x) := by simp [World.cell?, h]
  have c1 : w.cell? ⟨b, 1, none⟩ = some (.int .i64 y) := by simp [World.cell?, h]
  clear h
  go_enter Try.func71, Try.ntmps71
  by_cases hx : x = 0
  · subst hx
    rw [if_pos rfl]
    by_cases hy : y = 0
    · subst hy
      go_wp2_with fail
      refine wp_loop_rounds 3 ?_
      rw [rounds_succ]
      go_wp2_with fail
      rw [rounds_succ]
      go_wp2_with fail
      rw [rounds_succ]
      go_wp2_with fail
      go_ret
      exact ⟨rfl, rfl⟩
    · have g : (y != 0) = true := by rw [bne_iff_ne]; exact hy
      go_wp2_with fail
      refine wp_loop_rounds 3 ?_
      rw [rounds_succ]
      go_wp2_with fail
      rw [rounds_succ]
      go_wp2_with fail
      go_ret
      exact ⟨rfl, rfl⟩
  · rw [if_neg hx]
    have g : (x != 0) = true := by rw [bne_iff_ne]; exact hx
    go_wp2_with fail
    refine wp_loop_rounds 3 ?_
    rw [rounds_succ]
    go_wp2_with fail
    go_ret
    exact ⟨rfl, rfl⟩

end Go.Proofs.Ytmfndimejnbgkaa.Model
