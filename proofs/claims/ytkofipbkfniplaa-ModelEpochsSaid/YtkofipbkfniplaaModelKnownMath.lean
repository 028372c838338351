/-
  The chapter's example, reckoned.
-/
import Derived.Test.YtkofipbkfniplaaModelRun
import Derived.Test.YtkofipbkfniplaaModelSameS
namespace Go.Proofs.Ytkofipbkfniplaa.Model
open Go Go.RowKit Go.Proofs.Ytkofipbkfniplaa.Law Go.Proofs.Ytkofipbkfniplaa.Graph Go.Proofs.Ytkofipbkfniplaa.Fold

def sumG (x : Int) : List Opr := [⟨1, [], -1, 0, 0, 0, 0⟩, ⟨4, [0], x, 0, 0, 0, 0⟩, ⟨8, [1], 0, 0, 0, 0, 0⟩]
def kA : ByteArray := { data := #[97] }
def kB : ByteArray := { data := #[98] }
def exR : List Rc := [⟨0, 0, 0, kA, 1⟩, ⟨0, 0, 0, kB, 2⟩, ⟨0, 0, 0, kA, 3⟩]
def exP : List Pr := [⟨kA, 4⟩, ⟨kB, 2⟩]
theorem sumG_good (x : Int) (h0 : 0 ≤ x) (h1 : x < 7) : goodG (sumG x) := by
  refine ⟨by simp [sumG], by simp [sumG], fun j hj => ?_⟩
  have hj' : j < 3 := hj
  rcases (by omega : j = 0 ∨ j = 1 ∨ j = 2) with rfl | rfl | rfl
  · exact (okP_at (x := ⟨1, [], -1, 0, 0, 0, 0⟩) rfl).2 (by simp [okP, insP, formP, argP, takesP, loopP, wantN, sumG])
  · exact (okP_at (x := ⟨4, [0], x, 0, 0, 0, 0⟩) rfl).2 (by simp [okP, insP, formP, argP, takesP, loopP, wantN, sumG] <;> omega)
  · exact (okP_at (x := ⟨8, [1], 0, 0, 0, 0, 0⟩) rfl).2 (by simp [okP, insP, formP, argP, takesP, loopP, wantN, sumG])
theorem kAB : kA ≠ kB := by decide
theorem exP_rising : Rising exP := by
  unfold Rising exP
  refine List.Pairwise.cons (fun p hp => ?_) (List.pairwise_singleton _ _)
  obtain rfl := List.mem_singleton.1 hp
  show ltN kA kB = true
  unfold ltN kA kB
  rw [Lib.toList_data, Lib.toList_data]
  rfl
def exT : List Pr := [⟨kA, 1⟩, ⟨kB, 2⟩, ⟨kA, 3⟩]
theorem taken_ex : takenN (-1) exR = exT := by simp [takenN, exR, exT]
theorem mem_exP {p : Pr} : p ∈ exP ↔ (p.key = kA ∧ p.val = 4) ∨ (p.key = kB ∧ p.val = 2) := by
  simp only [exP, List.mem_cons, List.not_mem_nil, or_false]
  constructor
  · rintro (rfl | rfl)
    · exact .inl ⟨rfl, rfl⟩
    · exact .inr ⟨rfl, rfl⟩
  · rintro (⟨h1, h2⟩ | ⟨h1, h2⟩)
    · exact .inl (Pr.ext h1 h2)
    · exact .inr (Pr.ext h1 h2)
theorem keys_exT {k : ByteArray} : k ∈ keysL exT ↔ k = kA ∨ k = kB := by
  rw [mem_keysL]
  simp only [exT, List.mem_cons, List.not_mem_nil, or_false]
  constructor
  · rintro ⟨p, (rfl | rfl | rfl), rfl⟩ <;> simp
  · rintro (rfl | rfl)
    · exact ⟨_, .inl rfl, rfl⟩
    · exact ⟨_, .inr (.inl rfl), rfl⟩
theorem keys_exP {k : ByteArray} : k ∈ keysL exP ↔ k = kA ∨ k = kB := by
  rw [mem_keysL]
  simp only [exP, List.mem_cons, List.not_mem_nil, or_false]
  constructor
  · rintro ⟨p, (rfl | rfl), rfl⟩ <;> simp
  · rintro (rfl | rfl)
    · exact ⟨_, .inl rfl, rfl⟩
    · exact ⟨_, .inr rfl, rfl⟩
theorem grp_A : grpF 0 exT kA = some 4 := by
  have : valsOf exT kA = [1, 3] := by simp [valsOf, exT, Ne.symm kAB]
  unfold grpF; rw [this]; decide
theorem grp_B : grpF 0 exT kB = some 2 := by
  have : valsOf exT kB = [2] := by simp [valsOf, exT, kAB]
  unfold grpF; rw [this]; decide
theorem folded_ex : foldedN 0 exT [] = exP := by
  refine rising_ext (tabL_rising (keysL_nodup _) _) exP_rising fun p => ?_
  show p ∈ tabL _ _ ↔ _
  rw [mem_tabL, mem_exP, keys_exT]
  simp only [List.foldl_nil]
  constructor
  · rintro ⟨h1 | h1, h2⟩
    · rw [h1, grp_A] at h2; exact .inl ⟨h1, h2⟩
    · rw [h1, grp_B] at h2; exact .inr ⟨h1, h2⟩
  · rintro (⟨h1, h2⟩ | ⟨h1, h2⟩)
    · exact ⟨.inl h1, by rw [h1, grp_A]; exact h2⟩
    · exact ⟨.inr h1, by rw [h1, grp_B]; exact h2⟩
theorem behind_ex : behindN [] exP = exP := by
  refine rising_ext (tabL_rising (keysL_nodup _) _) exP_rising fun p => ?_
  show p ∈ tabL _ _ ↔ _
  rw [mem_tabL, mem_exP, List.nil_append, keys_exP]
  have hA : lastF exP kA = some 4 := by simp [lastF, exP, kAB]
  have hB : lastF exP kB = some 2 := by simp [lastF, exP]
  constructor
  · rintro ⟨h1 | h1, h2⟩
    · rw [h1, hA] at h2; exact .inl ⟨h1, h2⟩
    · rw [h1, hB] at h2; exact .inr ⟨h1, h2⟩
  · rintro (⟨h1, h2⟩ | ⟨h1, h2⟩)
    · exact ⟨.inl h1, by rw [h1, hA]; exact h2⟩
    · exact ⟨.inr h1, by rw [h1, hB]; exact h2⟩
theorem passed_ex : passedN ⟨8, [1], 0, 0, 0, 0, 0⟩ exP = exP := by simp [passedN, passOne, turnN, exP]
theorem ex_0 : pairsL (sumG 0) [[], [], []] exR 1 = [exT] := by simp [pairsL, sumG, opN, taken_ex]
theorem ex_1 : pairsL (sumG 0) [[], [], []] exR 2 = [exT, exP] := by
  rw [pairsL, ex_0]
  simp [sumG, opN, folded_ex]
theorem ex_2 : pairsL (sumG 0) [[], [], []] exR 3 = [exT, exP, exP] := by
  rw [pairsL, ex_1]
  simp [sumG, opN, passed_ex]
theorem ex_at (i : Nat) (hi : i < 3) : pairsAt (sumG 0) [[], [], []] exR i = [exT, exP, exP].getD i [] := by
  rw [← pairsL_get (n := 3) _ _ _ hi, ex_2]
theorem foldsL_ex : foldsL (sumG 0) [] = [[], [], []] := rfl
theorem ex_run {er : Int} {out : List Pr} {nx : List (List Pr)} (h : RunR (sumG 0) [] exR er out nx) : er = 0 ∧ out = exP ∧ nx = [[], exP, []] := by
  refine h.uniq (.inr (.inr (.inr ⟨sumG_good 0 (by decide) (by decide), .inl rfl, by decide, fun i hi => ?_, rfl, ?_, ?_⟩)))
  · have hi' : i < 3 := hi
    rw [foldsL_ex, ex_at i hi']
    rcases (by omega : i = 0 ∨ i = 1 ∨ i = 2) with rfl | rfl | rfl <;> decide
  · rw [foldsL_ex]
    show exP = ordN (pairsAt (sumG 0) [[], [], []] exR 2)
    rw [ex_at 2 (by decide)]
    exact ordN_of (List.Perm.refl _) exP_rising.ordered
  · rw [foldsL_ex]
    have : List.range (sumG 0).length = [0, 1, 2] := rfl
    unfold stateN
    rw [this]
    simp only [List.map_cons, List.map_nil]
    rw [ex_at 0 (by decide), ex_at 1 (by decide), ex_at 2 (by decide)]
    simp [sumG, behind_ex]

end Go.Proofs.Ytkofipbkfniplaa.Model
