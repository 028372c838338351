/-
  Contracts of the law's sums and known: the chapter's example.
-/
import Derived.Test.YtmfndimejnbgkaaModelRun
import Derived.Test.YtmfndimejnbgkaaModelSameS
namespace Go.Proofs.Ytmfndimejnbgkaa.Model
open Go Go.RowKit Go.Proofs.Ytmfndimejnbgkaa.Law Go.Proofs.Ytmfndimejnbgkaa.Graph Go.Proofs.Ytmfndimejnbgkaa.Fold

def sumG (x : Int) : List Opr := [⟨1, [], -1, 0, 0, 0, 0⟩, ⟨4, [0], x, 0, 0, 0, 0⟩, ⟨8, [1], 0, 0, 0, 0, 0⟩]
def kA : ByteArray := { data := #[97] }
def kB : ByteArray := { data := #[98] }
def exR : List Rc := [⟨0, 0, 0, kA, 1⟩, ⟨0, 0, 0, kB, 2⟩, ⟨0, 0, 0, kA, 3⟩]
def exP : List Pr := [⟨kA, 4⟩, ⟨kB, 2⟩]
theorem sumG_good (x : Int) (h0 : 0 ≤ x) (h1 : x < 7) : goodG (sumG x) := by
  refine ⟨by simp [sumG], by simp [sumG], fun j hj => ?_⟩
  have hj' : j < 3 := hj
  rcases (by omega : j = 0 ∨ j = 1 ∨ j = 2) with rfl | rfl | rfl
  · exact (okP_at (x := ⟨1, [], -1, 0, 0, 0, 0⟩) rfl).2 (by simp [okP, insP, formP, argP, takesP, loopP, wantN, sumG])
  · exact (okP_at (x := ⟨4, [0], x, 0, 0, 0, 0⟩) rfl).2 (by simp [okP, insP, formP, argP, takesP, loopP, wantN, sumG] <;> omega)
  · exact (okP_at (x := ⟨8, [1], 0, 0, 0, 0, 0⟩) rfl).2 (by simp [okP, insP, formP, argP, takesP, loopP, wantN, sumG])
theorem kAB : kA ≠ kB := by decide
theorem exP_rising : Rising exP := by
  unfold Rising exP
  refine List.Pairwise.cons (fun p hp => ?_) (List.pairwise_singleton _ _)
  obtain rfl := List.mem_singleton.1 hp
  show ltN kA kB = true
  unfold ltN kA kB
  rw [Lib.toList_data, Lib.toList_data]
  rfl
def exT : List Pr := [⟨kA, 1⟩, ⟨kB, 2⟩, ⟨kA, 3⟩]
theorem taken_ex : takenN (-1) exR = exT := by simp [takenN, exR, exT]
theorem mem_exP {p : Pr} : p ∈ exP ↔ (p.key = kA ∧ p.val = 4) ∨ (p.key = kB ∧ p.val = 2) := by
  simp only [exP, List.mem_cons, List.not_mem_nil, or_false]
  constructor
  · rintro (rfl | rfl)
    · exact .inl ⟨rfl, rfl⟩
    · exact .inr ⟨rfl, rfl⟩
  · rintro (⟨h1, h2⟩ | ⟨h1, h2⟩)
    · exact .inl (Pr.ext h1 h2)
    · exact .inr (Pr.ext h1 h2)
theorem keys_exT {k : ByteArray} : k ∈ keysL exT ↔ k = kA ∨ k = kB := by
  rw [mem_keysL]
  simp only [exT, List.mem_cons, List.not_mem_nil, or_false]
  constructor
  · rintro ⟨p, (rfl | rfl | rfl), rfl⟩ <;> simp
  · rintro (rfl | rfl)
    · exact ⟨_, .inl rfl, rfl⟩
    · exact ⟨_, .inr (.inl rfl), rfl⟩
theorem keys_exP {k : ByteArray} : k ∈ keysL exP ↔ k = kA ∨ k = kB := by
  rw [mem_keysL]
  simp only [exP, List.mem_cons, List.not_mem_nil, or_false]
  constructor
  · rintro ⟨p, (rfl | rfl), rfl⟩ <;> simp
  · rintro (rfl | rfl)
    · exact ⟨_, .inl rfl, rfl⟩
    · exact ⟨_, .inr rfl, rfl⟩
theorem grp_A : grpF 0 exT kA = some 4 := by
  have : valsOf exT kA = [1, 3] := by simp [valsOf, exT, Ne.symm kAB]
  unfold grpF; rw [this]; decide
theorem grp_B : grpF 0 exT kB = some 2 := by
  have : valsOf exT kB = [2] := by simp [valsOf, exT, kAB]
  unfold grpF; rw [this]; decide
theorem folded_ex : foldedN 0 exT [] = exP := by
  refine rising_ext (tabL_rising (keysL_nodup _) _) exP_rising fun p => ?_
  show p ∈ tabL _ _ ↔ _
  rw [mem_tabL, mem_exP, keys_exT]
  simp only [List.foldl_nil]
  constructor
  · rintro ⟨h1 | h1, h2⟩
    · rw [h1, grp_A] at h2; exact .inl ⟨h1, h2⟩
    · rw [h1, grp_B] at h2; exact .inr ⟨h1, h2⟩
  · rintro (⟨h1, h2⟩ | ⟨h1, h2⟩)
    · exact ⟨.inl h1, by rw [h1, grp_A]; exact h2⟩
    · exact ⟨.inr h1, by rw [h1, grp_B]; exact h2⟩
theorem behind_ex : behindN [] exP = exP := by
  refine rising_ext (tabL_rising (keysL_nodup _) _) exP_rising fun p => ?_
  show p ∈ tabL _ _ ↔ _
  rw [mem_tabL, mem_exP, List.nil_append, keys_exP]
  have hA : lastF exP kA = some 4 := by simp [lastF, exP, kAB]
  have hB : lastF exP kB = some 2 := by simp [lastF, exP]
  constructor
  · rintro ⟨h1 | h1, h2⟩
    · rw [h1, hA] at h2; exact .inl ⟨h1, h2⟩
    · rw [h1, hB] at h2; exact .inr ⟨h1, h2⟩
  · rintro (⟨h1, h2⟩ | ⟨h1, h2⟩)
    · exact ⟨.inl h1, by rw [h1, hA]; exact h2⟩
    · exact ⟨.inr h1, by rw [h1, hB]; exact h2⟩
theorem passed_ex : passedN ⟨8, [1], 0, 0, 0, 0, 0⟩ exP = exP := by simp [passedN, passOne, turnN, exP]
theorem ex_0 : pairsL (sumG 0) [[], [], []] exR 1 = [exT] := by simp [pairsL, sumG, opN, taken_ex]
theorem ex_1 : pairsL (sumG 0) [[], [], []] exR 2 = [exT, exP] := by
  rw [pairsL, ex_0]
  simp [sumG, opN, folded_ex]
theorem ex_2 : pairsL (sumG 0) [[], [], []] exR 3 = [exT, exP, exP] := by
  rw [pairsL, ex_1]
  simp [sumG, opN, passed_ex]
theorem ex_at (i : Nat) (hi : i < 3) : pairsAt (sumG 0) [[], [], []] exR i = [exT, exP, exP].getD i [] := by
  rw [← pairsL_get (n := 3) _ _ _ hi, ex_2]
theorem foldsL_ex : foldsL (sumG 0) [] = [[], [], []] := rfl
theorem ex_run {er : Int} {out : List Pr} {nx : List (List Pr)} (h : RunR (sumG 0) [] exR er out nx) : er = 0 ∧ out = exP ∧ nx = [[], exP, []] := by
  refine h.uniq (.inr (.inr (.inr ⟨sumG_good 0 (by decide) (by decide), .inl rfl, by decide, fun i hi => ?_, rfl, ?_, ?_⟩)))
  · have hi' : i < 3 := hi
    rw [foldsL_ex, ex_at i hi']
    rcases (by omega : i = 0 ∨ i = 1 ∨ i = 2) with rfl | rfl | rfl <;> decide
  · rw [foldsL_ex]
    show exP = ordN (pairsAt (sumG 0) [[], [], []] exR 2)
    rw [ex_at 2 (by decide)]
    exact ordN_of (List.Perm.refl _) exP_rising.ordered
  · rw [foldsL_ex]
    have : List.range (sumG 0).length = [0, 1, 2] := rfl
    unfold stateN
    rw [this]
    simp only [List.map_cons, List.map_nil]
    rw [ex_at 0 (by decide), ex_at 1 (by decide), ex_at 2 (by decide)]
    simp [sumG, behind_ex]

end Go.Proofs.Ytmfndimejnbgkaa.Model
namespace Go.Proofs.Ytmfndimejnbgkaa.Model
open Go Go.RowKit Go.Lib Go.Sort Go.Shelf Go.Maps Go.Proofs.Ytmfndimejnbgkaa.Law Go.Proofs.Ytmfndimejnbgkaa.Graph Go.Proofs.Ytmfndimejnbgkaa.Fold

abbrev iObj (x : Int) : Obj := .cells #[.int .i64 x] 3
abbrev sumObj (b : Nat) (x : Int) : Obj := .cells #[.int .i64 1, .slice none 0 0, .int .i64 (-1), .int .u32 0, .int .i64 0, .int .i64 0, .int .u32 0, .int .i64 4, .slice (some ⟨b, 0, none⟩) 1 1, .int .i64 x, .int .u32 0, .int .i64 0, .int .i64 0, .int .u32 0,
  .int .i64 8, .slice (some ⟨b + 1, 0, none⟩) 1 1, .int .i64 0, .int .u32 0, .int .i64 0, .int .i64 0, .int .u32 0] 27
theorem int1_at {W : World} {b : Nat} {x : Int} (h : W.heap[b]? = some (iObj x)) : IntsAt (fun k => k < W.heap.size) W (.slice (some ⟨b, 0, none⟩) 1 1) [x] := by
  refine ⟨_, 1, rfl, Nat.le_refl _, (fun h => by cases h), fun _ => ⟨b, 0, rfl, lt_of_some h, fun i y hy => ?_⟩⟩
  have hi : i < 1 := (List.getElem?_eq_some_iff.1 hy).1
  obtain rfl : i = 0 := by omega
  obtain rfl : x = y := by simpa using hy
  simp [World.cell?, h]
/-- The blocks of the graph that adds up by key. -/
def SumAt (W : World) (b : Nat) (x : Int) : Prop := W.heap[b]? = some (iObj 0) ∧ W.heap[b + 1]? = some (iObj 1) ∧ W.heap[b + 1 + 1]? = some (sumObj b x)
theorem SumAt.ops {W : World} {b : Nat} {x : Int} (h : SumAt W b x) : OldO W.heap.size W (.slice (some ⟨b + 1 + 1, 0, none⟩) 3 3) (sumG x) := by
  obtain ⟨h0, h1, h2⟩ := h
  refine ⟨_, 3, rfl, Nat.le_refl _, (fun h => by cases h), fun _ => ⟨b + 1 + 1, 0, rfl, lt_of_some h2, fun j o hx => ?_⟩⟩
  have hj : j < 3 := (List.getElem?_eq_some_iff.1 hx).1
  rcases (by omega : j = 0 ∨ j = 1 ∨ j = 2) with rfl | rfl | rfl
  · obtain rfl : (⟨1, [], -1, 0, 0, 0, 0⟩ : Opr) = o := by simpa [sumG] using hx
    exact ⟨.slice none 0 0, by simp [Cells7, World.cell?, h2], IntsAt.nil _ _⟩
  · obtain rfl : (⟨4, [0], x, 0, 0, 0, 0⟩ : Opr) = o := by simpa [sumG] using hx
    exact ⟨.slice (some ⟨b, 0, none⟩) 1 1, by simp [Cells7, World.cell?, h2], int1_at h0⟩
  · obtain rfl : (⟨8, [1], 0, 0, 0, 0, 0⟩ : Opr) = o := by simpa [sumG] using hx
    exact ⟨.slice (some ⟨b + 1, 0, none⟩) 1 1, by simp [Cells7, World.cell?, h2], int1_at h1⟩
theorem SumAt.below {W W' : World} {b : Nat} {x : Int} (h : SumAt W b x) (hB : Below W.heap.size W W') : SumAt W' b x :=
  ⟨(hB.block _ (lt_of_some h.1)).trans h.1, (hB.block _ (lt_of_some h.2.1)).trans h.2.1, (hB.block _ (lt_of_some h.2.2)).trans h.2.2⟩
/-- What sums leaves: the graph in new memory. -/
def RetG (w : World) (e : Ending) (W : World) : Prop := e = .returned (.agg #[.slice (some ⟨w.heap.size + 1 + 1 + 1, 0, none⟩) 3 3]) ∧ SumAt W (w.heap.size + 1) 0 ∧ Below w.heap.size w W

set_option maxRecDepth 100000 in
set_option maxHeartbeats 4000000 in
theorem sums_calls (w : World) : Calls Try.prog 31 #[] w (RetG w) := by
  obtain ⟨W1, hW1⟩ : ∃ W1, (((w.alloc (gObj (.slice (some ⟨w.heap.size + 1 + 1 + 1, 0, none⟩) 3 3))).alloc (iObj 0)).alloc (iObj 1)).alloc (sumObj (w.heap.size + 1) 0) = W1 := ⟨_, rfl⟩
  have hB1 : Below w.heap.size w W1 := by
    rw [← hW1]
    exact ((((Below.refl _ w).alloc (Nat.le_refl _) _).alloc (by simp) _).alloc (by simp <;> omega) _).alloc (by simp <;> omega) _
  have k0 : W1.heap[w.heap.size]? = some (gObj (.slice (some ⟨w.heap.size + 1 + 1 + 1, 0, none⟩) 3 3)) := by
    rw [← hW1, Below.heap_alloc _ _ _ (by simp <;> omega), Below.heap_alloc _ _ _ (by simp <;> omega), Below.heap_alloc _ _ _ (by simp)]
    exact heap_alloc_new _ _
  have k1 : W1.heap[w.heap.size + 1]? = some (iObj 0) := by
    rw [← hW1, Below.heap_alloc _ _ _ (by simp <;> omega), Below.heap_alloc _ _ _ (by simp)]
    have := heap_alloc_new (w.alloc (gObj (.slice (some ⟨w.heap.size + 1 + 1 + 1, 0, none⟩) 3 3))) (iObj 0)
    rwa [World.size_alloc] at this
  have k2 : W1.heap[w.heap.size + 1 + 1]? = some (iObj 1) := by
    rw [← hW1, Below.heap_alloc _ _ _ (by simp)]
    have := heap_alloc_new ((w.alloc (gObj (.slice (some ⟨w.heap.size + 1 + 1 + 1, 0, none⟩) 3 3))).alloc (iObj 0)) (iObj 1)
    rwa [World.size_alloc, World.size_alloc] at this
  have k3 : W1.heap[w.heap.size + 1 + 1 + 1]? = some (sumObj (w.heap.size + 1) 0) := by
    rw [← hW1]
    have := heap_alloc_new (((w.alloc (gObj (.slice (some ⟨w.heap.size + 1 + 1 + 1, 0, none⟩) 3 3))).alloc (iObj 0)).alloc (iObj 1)) (sumObj (w.heap.size + 1) 0)
    rwa [World.size_alloc, World.size_alloc, World.size_alloc] at this
  obtain ⟨c0, _⟩ := box1 k0
  have HF : Hid (RetG w (.returned (.agg #[.slice (some ⟨w.heap.size + 1 + 1 + 1, 0, none⟩) 3 3])) W1) := Lib.hid ⟨rfl, ⟨k1, k2, k3⟩, hB1⟩
  have HW1 := Lib.hid hW1
  clear hW1 hB1 k0 k1 k2 k3
  go_enter Try.func31, Try.ntmps31
  go_wp2_with fail
  rw [HW1.out]
  refine bodyPost_ret (v := .agg #[.slice (some ⟨w.heap.size + 1 + 1 + 1, 0, none⟩) 3 3]) (by simp [results, Try.results31, go_sem, c0]) rfl HF.out

abbrev recsObj : Obj := .cells #[.int .i64 0, .int .i64 0, .int .i64 0, .string kA, .int .u32 1, .int .i64 0, .int .i64 0, .int .i64 0, .string kB, .int .u32 2, .int .i64 0, .int .i64 0, .int .i64 0, .string kA, .int .u32 3] 39
abbrev pairsObj : Obj := .cells #[.string kA, .int .u32 4, .string kB, .int .u32 2] 47
theorem exR_at {W : World} {b : Nat} (h : W.heap[b]? = some recsObj) : OldRc W.heap.size W (.slice (some ⟨b, 0, none⟩) 3 3) exR := by
  refine ⟨_, 3, rfl, Nat.le_refl _, (fun h => by cases h), fun _ => ⟨b, 0, rfl, lt_of_some h, fun j r hx => ?_⟩⟩
  have hj : j < 3 := (List.getElem?_eq_some_iff.1 hx).1
  rcases (by omega : j = 0 ∨ j = 1 ∨ j = 2) with rfl | rfl | rfl
  · obtain rfl : (⟨0, 0, 0, kA, 1⟩ : Rc) = r := by simpa [exR] using hx
    simp [Cells5, World.cell?, h]
  · obtain rfl : (⟨0, 0, 0, kB, 2⟩ : Rc) = r := by simpa [exR] using hx
    simp [Cells5, World.cell?, h]
  · obtain rfl : (⟨0, 0, 0, kA, 3⟩ : Rc) = r := by simpa [exR] using hx
    simp [Cells5, World.cell?, h]
theorem exP_at {W : World} {b : Nat} (h : W.heap[b]? = some pairsObj) : OldP W.heap.size W (.slice (some ⟨b, 0, none⟩) 2 2) exP := by
  refine ⟨_, 2, rfl, Nat.le_refl _, (fun h => by cases h), fun _ => ⟨b, 0, rfl, lt_of_some h, fun j r hx => ?_⟩⟩
  have hj : j < 2 := (List.getElem?_eq_some_iff.1 hx).1
  rcases (by omega : j = 0 ∨ j = 1) with rfl | rfl
  · obtain rfl : (⟨kA, 4⟩ : Pr) = r := by simpa [exP] using hx
    simp [World.cell?, h]
  · obtain rfl : (⟨kB, 2⟩ : Pr) = r := by simpa [exP] using hx
    simp [World.cell?, h]
theorem short_small {k : ByteArray} (h : k.size ≤ 1) : Short k := by unfold Short maxLen; omega
theorem exR_wf : wfR exR := by
  intro r hr
  simp only [exR, List.mem_cons, List.not_mem_nil, or_false] at hr
  rcases hr with rfl | rfl | rfl <;> exact ⟨short_small (by decide), by decide, by simp [i64], by simp [i64], by simp [i64]⟩

set_option maxRecDepth 100000 in
set_option maxHeartbeats 8000000 in
theorem known_calls (w : World) : Calls Try.prog 10 #[] w (RetB w true) := by
  have CR := Lib.hid fun W (h : OldO W.heap.size W (.slice (some ⟨w.heap.size + 1 + 1 + 1, 0, none⟩) 3 3) (sumG 0)) (h2 : OldRc W.heap.size W (.slice (some ⟨W.heap.size - 1, 0, none⟩) 3 3) exR) =>
    run_calls (sumG 0) [] exR (by decide) (by decide) (by decide) (by decide) (fun p h => by cases h) (fun p h => by cases h) exR_wf (by decide) _ (.slice none 0 0) _ W h (FoldsAt.nil _ _) h2
  have CS := Lib.hid (sums_calls w)
  go_enter Try.func10, Try.ntmps10
  go_wp2_with fail
  refine CS.out.mono ?_
  rintro e w1 ⟨rfl, hA, hB1⟩
  have hB2 := hB1.alloc hB1.size recsObj
  have hA2 := hA.below ((Below.refl _ w1).alloc (Nat.le_refl _) recsObj)
  have hr : (w1.alloc recsObj).heap[w1.heap.size]? = some recsObj := heap_alloc_new _ _
  have C1 := Lib.hid (CR.out (w1.alloc recsObj) hA2.ops (by rw [World.size_alloc, Nat.add_sub_cancel]; have := exR_at hr; rwa [World.size_alloc] at this))
  rw [World.size_alloc, Nat.add_sub_cancel] at C1
  have HB2 := Lib.hid hB2
  clear hB2 hA2 hA hr CR CS hB1
  go_wp2_with fail
  refine C1.out.mono ?_
  rintro e w2 ⟨pv, fv, er, out, nx, rfl, hrun, hP, hF, hB⟩
  obtain ⟨rfl, rfl, rfl⟩ := ex_run hrun
  obtain ⟨PA, pc, rfl, _⟩ := hP.form
  obtain ⟨FA, fc, rfl, _⟩ := hF.form
  have hs1 : w.heap.size ≤ (w1.alloc recsObj).heap.size := HB2.out.size
  obtain ⟨w4, hw4⟩ : ∃ w4, (w2.alloc (sObj (.slice FA [[], exP, []].length fc))).alloc pairsObj = w4 := ⟨_, rfl⟩
  have hB4 : Below w2.heap.size w2 w4 := by rw [← hw4]; exact ((Below.refl _ _).alloc (Nat.le_refl _) _).alloc (by simp) _
  have k0 : w4.heap[w2.heap.size]? = some (sObj (.slice FA [[], exP, []].length fc)) := by rw [← hw4]; exact (Below.heap_alloc _ _ _ (by simp)).trans (heap_alloc_new _ _)
  have k1 : w4.heap[w2.heap.size + 1]? = some pairsObj := by
    rw [← hw4]
    have := heap_alloc_new (w2.alloc (sObj (.slice FA [[], exP, []].length fc))) pairsObj
    rwa [World.size_alloc] at this
  have C2 := Lib.hid (samePairs_calls exP exP (by decide) (by decide) true (by simp) _ _ w4 (TwoAt.on hB4 hP.old) (exP_at k1))
  have hBB4 : Below w.heap.size w w4 := (HB2.out.trans (hB.mono HB2.out.size)).trans (hB4.mono (by have := hB.size; omega))
  have HC3 : Hid (∀ W, Below w4.heap.size w4 W → (W.cell? ⟨w2.heap.size, 0, none⟩ = some (.slice FA 3 fc)) ∧ ∃ b off A c, FA = some ⟨b, off, none⟩ ∧ W.cell? ⟨b, off + 1, none⟩ = some (.slice A 2 c) ∧ Calls Try.prog 32 #[.slice A 2 c, .slice PA exP.length pc] W (RetB W true)) := Lib.hid fun W hW => by
    have k2 : W.heap[w2.heap.size]? = some (sObj (.slice FA [[], exP, []].length fc)) := (hW.block _ (lt_of_some k0)).trans k0
    have hF4 : OldF w4.heap.size w4 (.slice FA [[], exP, []].length fc) [[], exP, []] := FoldsAt.on hB4 hF.old
    have hP4 : OldP W.heap.size W (.slice PA exP.length pc) exP := TwoAt.on hW (TwoAt.on hB4 hP.old)
    obtain ⟨b, off, rfl, _, hc⟩ := (FoldsAt.on hW hF4).at (by decide)
    obtain ⟨u, hu, ht⟩ := hc 1 exP rfl
    obtain ⟨A, c, rfl, _⟩ := ht.form
    exact ⟨(box1 k2).1, b, off, A, c, rfl, hu, samePairs_calls exP exP (by decide) (by decide) true (by simp) _ _ W ht hP4⟩
  have HW4 := Lib.hid hw4
  have HB4 := Lib.hid hBB4
  clear hw4 hB4 k0 k1 hBB4 hrun hP hF hB hs1 C1
  have e3 : [[], exP, []].length = 3 := rfl
  have e2 : exP.length = 2 := rfl
  rw [e3] at HW4 ⊢
  rw [e2] at HC3 C2 ⊢
  go_wp2_with fail
  have C2' := C2.out
  rw [← HW4.out] at C2'
  refine C2'.mono ?_
  rintro e w5 ⟨rfl, hB5⟩
  rw [HW4.out] at hB5
  clear C2'
  obtain ⟨c0, b, off, A, c, rfl, c1, C3⟩ := HC3.out w5 hB5
  have HB5 : Hid (Below w.heap.size w w5) := Lib.hid (HB4.out.trans (hB5.mono HB4.out.size))
  have C3 := Lib.hid C3
  clear hB5 HC3 C2
  go_wp2_with fail
  refine C3.out.mono ?_
  rintro e w6 ⟨rfl, hB6⟩
  have HB6 : Hid (Below w.heap.size w w6) := Lib.hid (HB5.out.trans (hB6.mono HB5.out.size))
  clear hB6
  go_wp2_with fail
  go_ret
  exact ⟨rfl, HB6.out⟩

end Go.Proofs.Ytmfndimejnbgkaa.Model
