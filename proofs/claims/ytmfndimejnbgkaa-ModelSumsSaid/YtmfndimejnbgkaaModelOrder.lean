/-
  Contract of the model's Order: the pairs, sorted, in new memory.
-/
import Derived.Test.YtmfndimejnbgkaaModelCmp
import Derived.OwnWalkIn
import Derived.TacticsInMore
import Derived.LoopNIn
import Derived.LoopIn
import Derived.Shelf.Abstract
import Derived.Shelf.RegionOpen
import Derived.Test.YtmfndimejnbgkaaSeen
namespace Go.Proofs.Ytmfndimejnbgkaa.Model
open Go Go.RowKit Go.Lib Go.Sort Go.Shelf Go.Proofs.Ytmfndimejnbgkaa.Law Go.Proofs.Ytmfndimejnbgkaa.Graph Go.Proofs.Ytmfndimejnbgkaa.Fold

instance : Inhabited Pr := ⟨⟨⟨#[]⟩, 0⟩⟩
/-- A pair, as cells. -/
def encP (p : Pr) : List Value := [.string p.key, .int .u32 (p.val : Nat)]
abbrev cmpP (x y : Pr) : Int := if cmpS x.key y.key = 0 then cmpU x.val y.val else cmpS x.key y.key
theorem ltPc (x y : Pr) : ltOf cmpP x y = ltP x y := by
  unfold ltOf cmpP cmpS cmpU ltP
  cases h1 : ltN x.key y.key with
  | true => simp
  | false =>
    cases h2 : ltN y.key x.key with
    | true =>
      have hne : x.key ≠ y.key := fun e => by rw [e, ltN_irr] at h2; cases h2
      simp [hne]
    | false =>
      have he : x.key = y.key := Decidable.byContradiction fun hne => by rw [ltN_total h1 hne] at h2; cases h2
      simp only [he, Bool.false_eq_true, if_false, if_true, Bool.false_or, decide_true, Bool.true_and]
      by_cases h3 : x.val < y.val
      · simp [h3]
      · simp only [if_neg h3]
        split <;> simp [h3]
theorem swoP : SWO (ltOf cmpP) where
  irrefl x := by rw [ltPc, ltP_irr]
  trans x y z h1 h2 := by rw [ltPc] at *; exact ltP_trans h1 h2
  ntrans x y z h1 h2 := by
    rw [ltPc] at *
    cases h : ltP x z with
    | false => rfl
    | true =>
      exfalso
      by_cases hxy : x = y
      · subst hxy; rw [h2] at h; cases h
      · have := ltP_total h1 hxy
        have := ltP_trans this h
        rw [h2] at this; cases this

set_option maxRecDepth 100000 in
set_option maxHeartbeats 2000000 in
theorem closureP (x y : Pr) (W : World) : Calls Try.prog 70 #[.agg (encP x).toArray, .agg (encP y).toArray] W fun e w' => e = .returned (.int .i64 (cmpP x y)) ∧ ∃ q os', w' = grow (W.drewN q) os' := by
  have C1 := Lib.hid fun w => cmpS_calls x.key y.key w
  have C2 := Lib.hid fun w => cmpU_calls x.val y.val w
  obtain ⟨a, ha⟩ : ∃ a, cmpS x.key y.key = a := ⟨_, rfl⟩
  obtain ⟨b, hb⟩ : ∃ b, cmpU x.val y.val = b := ⟨_, rfl⟩
  unfold cmpP
  rw [ha] at C1 ⊢
  rw [hb] at C2 ⊢
  clear ha hb
  obtain ⟨r, hr⟩ : ∃ r, (if a = 0 then b else a) = r := ⟨_, rfl⟩
  rw [hr]
  have HR := Lib.hid hr
  clear hr
  unfold encP
  obtain ⟨W1, hW1⟩ : ∃ W1, (W.alloc (prObj x)).alloc (prObj y) = W1 := ⟨_, rfl⟩
  obtain ⟨q, hq⟩ : ∃ q, W.heap.size = q := ⟨_, rfl⟩
  have hx : W1.heap[q]? = some (prObj x) := by rw [← hW1, ← hq]; exact (Below.heap_alloc _ _ _ (by simp)).trans (heap_alloc_new W _)
  have hy : W1.heap[q + 1]? = some (prObj y) := by
    rw [← hW1, ← hq]
    have := heap_alloc_new (W.alloc (prObj x)) (prObj y)
    rwa [World.size_alloc] at this
  have hG : ∃ os', W1 = grow W os' := ⟨_, by rw [← hW1, alloc_eq_grow, alloc_eq_grow, grow_grow]⟩
  have hs1 : W1.heap.size = q + 1 + 1 := by rw [← hW1, ← hq]; simp
  have HX := Lib.hid hx
  have HY := Lib.hid hy
  have HG := Lib.hid hG
  have HS := Lib.hid hs1
  have HW := Lib.hid hW1
  have HQ := Lib.hid hq
  clear hx hy hG hs1 hW1 hq
  go_enter Try.func70, Try.ntmps70
  go_wp2_with fail
  rw [HW.out, HQ.out]
  refine wp_region_noPanic ?_
  refine wp_region_held_tail (C := fun w' => w'.heap[q]? = some (prObj x) ∧ w'.heap[q + 1]? = some (prObj y)) [0, 1, 2, 3, 5, 6, 7, 8] [4, 9, 10, 11, 12] 12 (by kernel_rfl) (by kernel_rfl) (fun _ _ _ _ _ h => h) ?_ ?_
  · exact ⟨HX.out, HY.out⟩
  iterate 8
    refine heldI_step (v := ?_) rfl (by rfl) (fun w' hw' => ?_) ?_
    rotate_left
    · obtain ⟨k0, k1⟩ := boxP hw'.1
      obtain ⟨k2, k3⟩ := boxP hw'.2
      go_simp
      all_goals with_reducible rfl
    simp only [Act.put, List.getElem_toArray, List.getElem_cons_succ, List.getElem_cons_zero, List.setIfInBounds_toArray, List.set_cons_succ, List.set_cons_zero]
  refine heldI_nil ?_
  have HC0 : Hid (W1.drew.heap[q]? = some (prObj x) ∧ W1.drew.heap[q + 1]? = some (prObj y)) := Lib.hid ⟨HX.out, HY.out⟩
  refine seqI_step rfl ?_
  simp only [List.getElem_toArray, List.getElem_cons_succ, List.getElem_cons_zero]
  go_wp2_with (go_at_call 72; ((with_reducible refine (C1.out _).mono ?_); rintro e W3 ⟨rfl, rfl⟩))
  refine ⟨HC0.out, ?_⟩
  refine seqI_step rfl ?_
  simp only [List.getElem_toArray, List.getElem_cons_succ, List.getElem_cons_zero]
  go_wp2_with (go_at_call 73; ((with_reducible refine (C2.out _).mono ?_); rintro e W3 ⟨rfl, rfl⟩))
  refine ⟨HC0.out, ?_⟩
  refine seqI_step rfl ?_
  simp only [List.getElem_toArray, List.getElem_cons_succ, List.getElem_cons_zero]
  go_wp2_with fail
  obtain ⟨W4, hW4⟩ : ∃ W4, (W1.alloc (.cells #[.int .i64 a, .int .i64 b] 3)).drew = W4 := ⟨_, rfl⟩
  have h4 : W4.heap[q + 1 + 1]? = some (.cells #[.int .i64 a, .int .i64 b] 3) := by
    rw [← hW4]
    have := heap_alloc_new W1 (.cells #[.int .i64 a, .int .i64 b] 3)
    rw [HS.out] at this
    exact this
  have HC4 : Hid (W4.heap[q]? = some (prObj x) ∧ W4.heap[q + 1]? = some (prObj y)) := Lib.hid (by
    rw [← hW4]
    exact ⟨(Below.heap_alloc _ _ _ (lt_of_some HC0.out.1)).trans HC0.out.1, (Below.heap_alloc _ _ _ (lt_of_some HC0.out.2)).trans HC0.out.2⟩)
  have c3 := or_calls a b _ _ _ _ h4
  rw [HR.out] at c3
  have C3 := Lib.hid c3
  have HF : Hid (∃ p os', W4 = grow (W.drewN p) os') := Lib.hid (by
    obtain ⟨os, hos⟩ := HG.out
    refine ⟨1, os ++ #[.cells #[.int .i64 a, .int .i64 b] 3], ?_⟩
    rw [← hW4, hos, alloc_eq_grow, grow_grow]
    rfl)
  rw [HS.out, hW4]
  clear hW4 h4 c3
  refine ⟨HC4.out, ?_⟩
  refine seqI_step rfl ?_
  simp only [List.getElem_toArray, List.getElem_cons_succ, List.getElem_cons_zero]
  go_wp2_with (go_at_call 71; ((with_reducible refine C3.out.mono ?_); rintro e W5 ⟨rfl, rfl⟩))
  refine ⟨HC4.out, ?_⟩
  refine seqI_last rfl ?_
  simp only [List.getElem_toArray, List.getElem_cons_succ, List.getElem_cons_zero]
  go_wp2_with fail
  refine NoPanic.normal ?_
  go_wp2_with fail
  go_ret
  exact ⟨rfl, HF.out⟩

end Go.Proofs.Ytmfndimejnbgkaa.Model
