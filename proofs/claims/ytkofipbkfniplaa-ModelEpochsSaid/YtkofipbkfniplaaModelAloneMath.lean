/-
  Where nothing is gathered each record comes out as if alone.
-/
import Derived.Test.YtkofipbkfniplaaModelPerm
namespace Go.Proofs.Ytkofipbkfniplaa.Model
open Go Go.RowKit Go.Proofs.Ytkofipbkfniplaa.Law Go.Proofs.Ytkofipbkfniplaa.Graph Go.Proofs.Ytkofipbkfniplaa.Fold

/-- No fold and no join. -/
def Loose (g : List Opr) : Prop := ∀ x ∈ g, x.kind ≠ 4 ∧ x.kind ≠ 5
theorem Loose.at {g : List Opr} (h : Loose g) (i : Nat) : (g.getD i ⟨0, [], 0, 0, 0, 0, 0⟩).kind ≠ 4 ∧ (g.getD i ⟨0, [], 0, 0, 0, 0, 0⟩).kind ≠ 5 := by
  rw [List.getD_eq_getElem?_getD]
  cases hx : g[i]? with
  | none => exact ⟨by decide, by decide⟩
  | some x => exact h x (List.mem_of_getElem? hx)
theorem perm_four {α : Type} (a b c d : List α) : ((a ++ b) ++ (c ++ d)).Perm ((a ++ c) ++ (b ++ d)) := by
  rw [List.append_assoc, List.append_assoc]
  refine List.Perm.append_left a ?_
  rw [← List.append_assoc, ← List.append_assoc]
  exact List.Perm.append_right d List.perm_append_comm
theorem opN_parts (o : Opr) (h4 : o.kind ≠ 4) (h5 : o.kind ≠ 5) (ps qs rs : List (List Pr)) (h : ∀ i : Nat, (ps.getD i []).Perm (qs.getD i [] ++ rs.getD i [])) (kept : List Pr) (a b : List Rc) :
    (opN o ps kept (a ++ b)).Perm (opN o qs kept a ++ opN o rs kept b) := by
  unfold opN
  by_cases h1 : o.kind = 1
  · simp only [if_pos h1]
    unfold takenN
    rw [List.filter_append, List.map_append]
  · by_cases h6 : o.kind = 6
    · simp only [if_neg h1, if_pos h6]
      exact ((h _).append (h _)).trans (perm_four _ _ _ _)
    · simp only [if_neg h1, if_neg h6, if_neg h5, if_neg h4]
      unfold passedN
      rw [← List.filterMap_append]
      exact (h _).filterMap _
theorem pairsL_parts {g : List Opr} (hg : Loose g) (st : List (List Pr)) (a b : List Rc) (n : Nat) : ∀ i : Nat, ((pairsL g st (a ++ b) n).getD i []).Perm ((pairsL g st a n).getD i [] ++ (pairsL g st b n).getD i []) := by
  induction n with
  | zero => intro i; exact List.Perm.refl _
  | succ n ih =>
    intro i
    rw [pairsL, pairsL, pairsL, getD_snoc, getD_snoc, getD_snoc, pairsL_length, pairsL_length, pairsL_length]
    split
    · exact ih i
    · split
      · exact opN_parts _ (hg.at n).1 (hg.at n).2 _ _ _ ih _ _ _
      · exact List.Perm.refl _
theorem pairsAt_parts {g : List Opr} (hg : Loose g) (st : List (List Pr)) (a b : List Rc) (i : Nat) : (pairsAt g st (a ++ b) i).Perm (pairsAt g st a i ++ pairsAt g st b i) := pairsL_parts hg st a b (i + 1) i
theorem pairsAt_none {g : List Opr} (hg : Loose g) (st : List (List Pr)) (i : Nat) : pairsAt g st [] i = [] := by
  have h := (pairsAt_parts hg st [] [] i).length_eq
  rw [List.append_nil, List.length_append] at h
  exact List.eq_nil_of_length_eq_zero (by omega)
/-- What comes of the first k records, each alone. -/
def eachN (g : List Opr) (recs : List Rc) : Nat → List Pr
  | 0 => []
  | k + 1 => eachN g recs k ++ (match recs[k]? with | some r => ordN (pairsAt g (foldsL g []) [r] (g.length - 1)) | none => [])
theorem each_perm {g : List Opr} (hg : Loose g) (recs : List Rc) : ∀ k : Nat, k ≤ recs.length → (eachN g recs k).Perm (pairsAt g (foldsL g []) (recs.take k) (g.length - 1))
  | 0, _ => by rw [List.take_zero, pairsAt_none hg]; exact List.Perm.refl _
  | k + 1, hk => by
    have hx : recs[k]? = some recs[k] := List.getElem?_eq_getElem (by omega)
    have e : recs.take (k + 1) = recs.take k ++ [recs[k]] := by rw [List.take_add_one, hx]; rfl
    rw [e]
    refine List.Perm.trans ?_ (pairsAt_parts hg _ _ _ _).symm
    show (eachN g recs k ++ (match recs[k]? with | some r => ordN (pairsAt g (foldsL g []) [r] (g.length - 1)) | none => [])).Perm _
    rw [hx]
    exact (each_perm hg recs k (by omega)).append (ordN_perm _)
theorem each_out {g : List Opr} (hg : Loose g) (recs : List Rc) : ordN (eachN g recs recs.length) = ordN (pairsAt g (foldsL g []) recs (g.length - 1)) := by
  have h := each_perm hg recs recs.length (Nat.le_refl _)
  rw [List.take_length] at h
  exact ordN_congr h
theorem each_length {g : List Opr} (hg : Loose g) (recs : List Rc) (k : Nat) (hk : k ≤ recs.length) : (eachN g recs k).length ≤ (pairsAt g (foldsL g []) recs (g.length - 1)).length := by
  rw [(each_perm hg recs k hk).length_eq]
  have h := (pairsAt_parts hg (foldsL g []) (recs.take k) (recs.drop k) (g.length - 1)).length_eq
  rw [List.take_append_drop, List.length_append] at h
  omega
/-- Each record alone goes through where all of them did. -/
theorem RunR.alone {g : List Opr} {recs : List Rc} {out : List Pr} {nx : List (List Pr)} (h : RunR g [] recs 0 out nx) (hg : Loose g) {k : Nat} {r : Rc} (hr : recs[k]? = some r) {e : Int} {o : List Pr} {n : List (List Pr)} (h1 : RunR g [] [r] e o n) :
    e = 0 ∧ o = ordN (pairsAt g (foldsL g []) [r] (g.length - 1)) := by
  rcases h with ⟨_, he, _⟩ | ⟨_, _, he, _⟩ | ⟨_, _, _, he, _⟩ | ⟨a1, a2, a3, a4, _, _, _⟩
  · cases he
  · cases he
  · cases he
  have hs : ∀ i, i < g.length → (pairsAt g (foldsL g []) [r] i).length ≤ 4096 := fun i hi => by
    have hlt := (List.getElem?_eq_some_iff.1 hr).1
    have e1 : recs = recs.take k ++ ([r] ++ recs.drop (k + 1)) := by
      obtain ⟨_, rfl⟩ := List.getElem?_eq_some_iff.1 hr
      rw [List.singleton_append, List.getElem_cons_drop, List.take_append_drop]
    have p1 := (pairsAt_parts hg (foldsL g []) (recs.take k) ([r] ++ recs.drop (k + 1)) i).length_eq
    have p2 := (pairsAt_parts hg (foldsL g []) [r] (recs.drop (k + 1)) i).length_eq
    rw [← e1, List.length_append] at p1
    rw [List.length_append] at p2
    have := a4 i hi
    omega
  rcases h1 with ⟨b, _⟩ | ⟨_, b, _⟩ | ⟨_, _, b, _⟩ | ⟨_, _, _, _, b1, b2, _⟩
  · exact absurd a1 b
  · exact absurd a2 b
  · rcases b with b | ⟨i, hi, b⟩
    · simp at b
    · have := hs i hi; omega
  · exact ⟨b1, b2⟩
theorem RunR.fails {g : List Opr} {recs : List Rc} {e : Int} {out : List Pr} {nx : List (List Pr)} (h : RunR g [] recs e out nx) (he : e ≠ 0) : out = [] ∧ nx = [] := by
  rcases h with ⟨_, _, h1, h2⟩ | ⟨_, _, _, h1, h2⟩ | ⟨_, _, _, _, h1, h2⟩ | ⟨_, _, _, _, h1, _⟩
  · exact ⟨h1, h2⟩
  · exact ⟨h1, h2⟩
  · exact ⟨h1, h2⟩
  · exact absurd h1 he
theorem RunR.outs {g : List Opr} {st : List (List Pr)} {recs : List Rc} {e : Int} {out : List Pr} {nx : List (List Pr)} (h : RunR g st recs e out nx) : out.length ≤ 4096 := by
  rcases h with ⟨_, _, rfl, _⟩ | ⟨_, _, _, rfl, _⟩ | ⟨_, _, _, _, rfl, _⟩ | ⟨hg, _, _, h4, _, rfl, _⟩
  · simp
  · simp
  · simp
  · have h1 := hg.1
    rw [ordN_length]; exact h4 _ (by omega)
theorem RunR.out_eq {g : List Opr} {recs : List Rc} {out : List Pr} {nx : List (List Pr)} (h : RunR g [] recs 0 out nx) : out = ordN (pairsAt g (foldsL g []) recs (g.length - 1)) := by
  rcases h with ⟨_, he, _⟩ | ⟨_, _, he, _⟩ | ⟨_, _, _, he, _⟩ | ⟨_, _, _, _, _, h, _⟩
  · cases he
  · cases he
  · cases he
  · exact h

end Go.Proofs.Ytkofipbkfniplaa.Model
