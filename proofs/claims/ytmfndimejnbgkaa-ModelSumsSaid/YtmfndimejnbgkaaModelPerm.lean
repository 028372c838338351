/-
  The order of the records does not count.
-/
import Derived.Test.YtmfndimejnbgkaaModelMath
namespace Go.Proofs.Ytmfndimejnbgkaa.Model
open Go Go.RowKit Go.Proofs.Ytmfndimejnbgkaa.Law Go.Proofs.Ytmfndimejnbgkaa.Graph Go.Proofs.Ytmfndimejnbgkaa.Fold

theorem keysL_perm {l m : List Pr} (h : l.Perm m) (k : ByteArray) : k ∈ keysL l ↔ k ∈ keysL m := by
  rw [mem_keysL, mem_keysL]
  constructor
  · rintro ⟨p, hp, e⟩; exact ⟨p, h.mem_iff.1 hp, e⟩
  · rintro ⟨p, hp, e⟩; exact ⟨p, h.mem_iff.2 hp, e⟩
theorem grpF_permF (x : Int) {l m : List Pr} (h : l.Perm m) : grpF x l = grpF x m := funext (grpF_perm x h)
theorem foldedN_perm (x : Int) {l m : List Pr} (h : l.Perm m) (kept : List Pr) : foldedN x l kept = foldedN x m kept := by
  unfold foldedN
  rw [grpF_permF x h]
  exact tabL_congr (keysL_nodup _) (keysL_nodup _) (keysL_perm h) fun _ _ => rfl
theorem joinedN_perm (x : Int) {a a' b b' : List Pr} (h : a.Perm a') (h2 : b.Perm b') : joinedN x a b = joinedN x a' b' := by
  have e : bothF x a b = bothF x a' b' := by unfold bothF; rw [grpF_permF x h, grpF_permF x h2]
  unfold joinedN
  rw [e]
  refine tabL_congr ((keysL_nodup _).filter _) ((keysL_nodup _).filter _) (fun k => ?_) fun _ _ => rfl
  rw [List.mem_filter, List.mem_filter, keysL_perm h, decide_eq_true_iff, decide_eq_true_iff, keysL_perm h2]
theorem opN_fold (o : Opr) (h4 : o.kind = 4) (ps qs : List (List Pr)) (h : ∀ i : Nat, (ps.getD i []).Perm (qs.getD i [])) (kept : List Pr) (recs recs' : List Rc) : opN o ps kept recs = opN o qs kept recs' := by
  unfold opN
  rw [if_neg (by omega), if_neg (by omega), if_neg (by omega), if_pos h4, if_neg (by omega), if_neg (by omega), if_neg (by omega), if_pos h4]
  exact foldedN_perm _ (h _) kept
theorem opN_perm (o : Opr) (ps qs : List (List Pr)) (h : ∀ i : Nat, (ps.getD i []).Perm (qs.getD i [])) (kept : List Pr) {recs recs' : List Rc} (hr : recs.Perm recs') : (opN o ps kept recs).Perm (opN o qs kept recs') := by
  unfold opN
  split
  · exact (hr.filter _).map _
  · split
    · exact (h _).append (h _)
    · split
      · rw [joinedN_perm _ (h _) (h _)]
      · split
        · rw [foldedN_perm _ (h _)]
        · exact (h _).filterMap _
theorem getD_snoc (l : List (List Pr)) (x : List Pr) (i : Nat) : (l ++ [x]).getD i [] = if i < l.length then l.getD i [] else if i = l.length then x else [] := by
  rw [List.getD_eq_getElem?_getD]
  split
  · rename_i h
    rw [List.getElem?_append_left h, ← List.getD_eq_getElem?_getD]
  · rename_i h
    rw [List.getElem?_append_right (by omega)]
    split
    · rename_i h2; rw [h2, Nat.sub_self]; rfl
    · rename_i h2; rw [List.getElem?_eq_none (by simp; omega)]; rfl
theorem pairsL_perm (g : List Opr) (st : List (List Pr)) {recs recs' : List Rc} (hr : recs.Perm recs') (n : Nat) : ∀ i : Nat, ((pairsL g st recs n).getD i []).Perm ((pairsL g st recs' n).getD i []) := by
  induction n with
  | zero => intro i; exact List.Perm.refl _
  | succ n ih =>
    intro i
    rw [pairsL, pairsL, getD_snoc, getD_snoc, pairsL_length, pairsL_length]
    split
    · exact ih i
    · split
      · exact opN_perm _ _ _ ih _ hr
      · exact List.Perm.refl _
theorem pairsAt_perm (g : List Opr) (st : List (List Pr)) {recs recs' : List Rc} (hr : recs.Perm recs') (i : Nat) : (pairsAt g st recs i).Perm (pairsAt g st recs' i) := pairsL_perm g st hr (i + 1) i
theorem pairsAt_fold (g : List Opr) (st : List (List Pr)) {recs recs' : List Rc} (hr : recs.Perm recs') (i : Nat) (h4 : (g.getD i ⟨0, [], 0, 0, 0, 0, 0⟩).kind = 4) : pairsAt g st recs i = pairsAt g st recs' i := by
  rw [pairsAt_eq, pairsAt_eq]
  exact opN_fold _ h4 _ _ (pairsL_perm g st hr i) _ _ _
theorem RunR.perm {g : List Opr} {st : List (List Pr)} {recs recs' : List Rc} {e : Int} {out : List Pr} {nx : List (List Pr)} (h : RunR g st recs e out nx) (hr : recs.Perm recs') : RunR g st recs' e out nx := by
  have hs : stateN g (foldsL g st) recs = stateN g (foldsL g st) recs' := by
    unfold stateN
    refine List.map_congr_left fun i _ => ?_
    split
    · rename_i h4
      rw [pairsAt_fold g _ hr i h4]
    · rfl
  rcases h with h | h | ⟨h1, h2, h3, h4⟩ | ⟨h1, h2, h3, h4, h5, h6, h7⟩
  · exact .inl h
  · exact .inr (.inl h)
  · refine .inr (.inr (.inl ⟨h1, h2, ?_, h4⟩))
    rcases h3 with h3 | ⟨i, hi, h3⟩
    · exact .inl (by rw [← hr.length_eq]; exact h3)
    · exact .inr ⟨i, hi, by rw [← (pairsAt_perm g _ hr i).length_eq]; exact h3⟩
  · exact .inr (.inr (.inr ⟨h1, h2, by rw [← hr.length_eq]; exact h3, fun i hi => by rw [← (pairsAt_perm g _ hr i).length_eq]; exact h4 i hi, h5, h6.trans (ordN_congr (pairsAt_perm g _ hr _)), h7.trans hs⟩))
theorem swap_permR {l : List Rc} {i j : Nat} {a b : Rc} (hi : l[i]? = some a) (hj : l[j]? = some b) : ((l.set i b).set j a).Perm l := by
  obtain ⟨h1, e1⟩ := List.getElem?_eq_some_iff.1 hi
  obtain ⟨h2, e2⟩ := List.getElem?_eq_some_iff.1 hj
  have h := Array.swap_perm (xs := l.toArray) (i := i) (j := j) (by simpa using h1) (by simpa using h2)
  have h' := h.toList
  simpa [e1, e2] using h'

end Go.Proofs.Ytmfndimejnbgkaa.Model
