/-
  Run and Good at the graph that adds up, when the pairs a came before.
-/
import Derived.Test.YtmfndimejnbgkaaModelEpochsMath
import Derived.Test.YtmfndimejnbgkaaModelEpochsLeaf
namespace Go.Proofs.Ytmfndimejnbgkaa.Model
open Go Go.RowKit Go.Proofs.Ytmfndimejnbgkaa.Law Go.Proofs.Ytmfndimejnbgkaa.Graph Go.Proofs.Ytmfndimejnbgkaa.Fold

/-- The sum of a key's values, modulo 2^32. -/
def totN (l : List Pr) (k : ByteArray) : Nat := (grpF 0 l k).getD 0
/-- The law's row of sums: one for each key that came, in the order in which they came. -/
def totsL (l : List Pr) : List Nat := (keysL l).map (totN l)
theorem totN_new {l : List Pr} {p : Pr} (h : p.key ∉ keysL l) : totN (l ++ [p]) p.key = p.val := by
  unfold totN
  rw [grpF_append, grpF_none h]
  show (grpF 0 [p] p.key).getD 0 = _
  simp [grpF, valsOf, foO, oj, stN]
theorem totN_old {l : List Pr} {p : Pr} (h : p.key ∈ keysL l) : totN (l ++ [p]) p.key = (totN l p.key + p.val) % 4294967296 := by
  unfold totN
  obtain ⟨v, hv⟩ := Option.isSome_iff_exists.1 (grpF_some.2 h : (grpF 0 l p.key).isSome)
  rw [grpF_append, hv]
  simp [grpF, valsOf, foO, oj, stN, jnN]
theorem totN_other {l : List Pr} {p : Pr} {k : ByteArray} (h : k ≠ p.key) : totN (l ++ [p]) k = totN l k := by
  unfold totN grpF
  rw [valsOf_snoc, if_neg h]
theorem totsL_length (l : List Pr) : (totsL l).length = (keysL l).length := by simp [totsL]
/-- A key that came for the first time: one more sum, of that value. -/
theorem totsL_new {l : List Pr} {p : Pr} (h : p.key ∉ keysL l) : keysL (l ++ [p]) = keysL l ++ [p.key] ∧ totsL (l ++ [p]) = totsL l ++ [p.val] := by
  have hk : keysL (l ++ [p]) = keysL l ++ [p.key] := by rw [keysL_snoc, if_neg h]
  refine ⟨hk, ?_⟩
  unfold totsL
  rw [hk, List.map_append]
  congr 1
  · refine List.map_congr_left fun k hk => totN_other fun e => h (e ▸ hk)
  · simp [totN_new h]
/-- A key that came before: its sum grows. -/
theorem totsL_old {l : List Pr} {p : Pr} {i : Nat} (hi : (keysL l)[i]? = some p.key) : keysL (l ++ [p]) = keysL l ∧ totsL (l ++ [p]) = (totsL l).set i (((totsL l).getD i 0 + p.val) % 4294967296) := by
  have hm : p.key ∈ keysL l := List.mem_of_getElem? hi
  have hk : keysL (l ++ [p]) = keysL l := by rw [keysL_snoc, if_pos hm]
  obtain ⟨hl, he⟩ := List.getElem?_eq_some_iff.1 hi
  refine ⟨hk, ?_⟩
  unfold totsL
  rw [hk]
  refine List.ext_getElem (by simp) fun j h1 h2 => ?_
  rw [List.getElem_set, List.getElem_map]
  by_cases hj : i = j
  · subst hj
    rw [if_pos rfl, he, totN_old hm]
    simp [List.getD, hl, he]
  · rw [if_neg hj, List.getElem_map]
    refine totN_other fun e => hj ?_
    have h1' : j < (keysL l).length := by simpa using h1
    exact (List.getElem_inj (keysL_nodup l)).1 (he.trans e.symm) 
/-- An epoch more. -/
theorem sums_epoch {a : List Pr} (hka : ∀ p ∈ a, p.key.size ≤ 32) {recs : List Rc} (hlen : recs.length ≤ 512) {er : Int} {out : List Pr} {nx : List (List Pr)}
    (h : RunR (sumG 0) [[], foldedN 0 a [], []] recs er out nx) :
    er = 0 ∧ out = foldedN 0 (takenN (-1) recs) (foldedN 0 a []) ∧ nx = [[], foldedN 0 (a ++ takenN (-1) recs) [], []] := by
  obtain ⟨h1, h2, h3⟩ := sum_run (x := 0) (by decide) (by decide) (.inr ⟨rfl, folded_rising 0 a [], fun p hp => by
    obtain ⟨q, hq, e⟩ := mem_keysL.1 (mem_tabL.1 hp).1
    rw [← e]; exact hka q hq⟩) hlen h
  exact ⟨h1, h2, by rw [h3, behind_two]⟩
theorem folded_length (x : Int) (l kept : List Pr) : (foldedN x l kept).length = (keysL l).length := by unfold foldedN; rw [tabL_length]
/-- What the law asks of a pair that came out. -/
theorem sums_out {a b : List Pr} {p : Pr} (hp : p ∈ foldedN 0 b (foldedN 0 a [])) : p.key ∈ keysL b ∧ p.key ∈ keysL (a ++ b) ∧ p.val = totN (a ++ b) p.key := by
  obtain ⟨h1, h2⟩ := mem_tabL.1 hp
  rw [second_val 0 a b h1] at h2
  exact ⟨h1, keysL_append.2 (.inr h1), h2⟩
/-- What they start from: nothing came. -/
theorem sums_none : foldedN 0 [] [] = [] := by simp [foldedN, keysL, tabL, sortN]
theorem sums_at {l : List Pr} {i : Nat} {k : ByteArray} (hi : (keysL l)[i]? = some k) : (totsL l)[i]? = some (totN l k) := by
  unfold totsL; rw [List.getElem?_map, hi]; rfl
end Go.Proofs.Ytmfndimejnbgkaa.Model
namespace Go.Proofs.Ytmfndimejnbgkaa.Model
open Go Go.RowKit Go.Lib Go.Sort Go.Shelf Go.Maps Go.Proofs.Ytmfndimejnbgkaa.Law Go.Proofs.Ytmfndimejnbgkaa.Graph Go.Proofs.Ytmfndimejnbgkaa.Fold

theorem sums_good {a : List Pr} (hka : ∀ p ∈ a, p.key.size ≤ 32) : goodS (sumG 0) [[], foldedN 0 a [], []] := by
  refine .inr ⟨rfl, fun i l o hl ho => ?_⟩
  have hi : i < 3 := (List.getElem?_eq_some_iff.1 hl).1
  rcases (by omega : i = 0 ∨ i = 1 ∨ i = 2) with rfl | rfl | rfl
  · obtain rfl : ([] : List Pr) = l := by simpa using hl
    exact ⟨.inr rfl, List.Pairwise.nil, fun p hp => by cases hp⟩
  · obtain rfl : foldedN 0 a [] = l := by simpa using hl
    obtain rfl : (⟨4, [0], 0, 0, 0, 0, 0⟩ : Opr) = o := by simpa [sumG] using ho
    exact ⟨.inl rfl, folded_rising 0 a [], fun p hp => by
      obtain ⟨q, hq, e⟩ := mem_keysL.1 (mem_tabL.1 hp).1
      rw [← e]; exact hka q hq⟩
  · obtain rfl : ([] : List Pr) = l := by simpa using hl
    exact ⟨.inr rfl, List.Pairwise.nil, fun p hp => by cases hp⟩
theorem sumsGood_calls {a : List Pr} (hka : ∀ p ∈ a, p.key.size ≤ 32) (hal : a.length ≤ 4096) (b : Nat) (sv : Value) (W : World)
    (hG : SumAt W b 0) (hS : OldF W.heap.size W sv [[], foldedN 0 a [], []]) :
    Calls Try.prog 14 #[.agg #[.slice (some ⟨b + 1 + 1, 0, none⟩) 3 3], .agg #[sv]] W (RetB W true) := by
  have hF := folded_len 0 a []
  refine good_calls (sumG 0) [[], foldedN 0 a [], []] (by show 3 * 72 ≤ _; omega) (by show 3 * 24 ≤ _; omega) (fun p hp => ?_) true ⟨fun _ => sums_good hka, fun _ => rfl⟩ _ sv W hG.ops hS
  simp only [List.mem_cons, List.not_mem_nil, or_false] at hp
  rcases hp with rfl | rfl | rfl
  · simp
  · omega
  · simp
theorem sums_wf {a : List Pr} (h : wfP a) : wfP (foldedN 0 a []) := by
  unfold foldedN
  refine tabL_wf (keysL_short h) fun s v hv => ?_
  exact foO_lt 0 _ v (fun u hu => by
    obtain ⟨p, hp, _, rfl⟩ := valsOf_mem hu
    exact (h p hp).2) hv
/-- What Run answers: the sums of the keys that came, and what is kept of all. -/
def RetSums (a : List Pr) (recs : List Rc) (w : World) (e : Ending) (W : World) : Prop :=
  ∃ pv fv, e = .returned (.tuple #[pv, .agg #[fv], .int .i64 0]) ∧ OwnP W w.heap.size pv (foldedN 0 (takenN (-1) recs) (foldedN 0 a [])) ∧ FoldsOwn W w.heap.size fv [[], foldedN 0 (a ++ takenN (-1) recs) [], []] ∧ Below w.heap.size w W
theorem sumsRun_calls {a : List Pr} (hka : ∀ p ∈ a, p.key.size ≤ 32) (hwa : wfP a) (hal : a.length ≤ 4096) {recs : List Rc} (hwr : wfR recs) (hrl : recs.length ≤ 512) (b : Nat) (sv rv : Value) (W : World)
    (hG : SumAt W b 0) (hS : OldF W.heap.size W sv [[], foldedN 0 a [], []]) (hR : OldRc W.heap.size W rv recs) :
    Calls Try.prog 13 #[.agg #[.slice (some ⟨b + 1 + 1, 0, none⟩) 3 3], .agg #[sv], rv] W (RetSums a recs W) := by
  have hF := folded_len 0 a []
  refine (sumRun_calls (by show 3 * 24 ≤ _; omega) (fun p hp => ?_) (fun p hp => ?_) hwr (by omega) b sv rv W hG hS hR).mono ?_
  · simp only [List.mem_cons, List.not_mem_nil, or_false] at hp
    rcases hp with rfl | rfl | rfl
    · simp
    · omega
    · simp
  · simp only [List.mem_cons, List.not_mem_nil, or_false] at hp
    rcases hp with rfl | rfl | rfl
    · exact wfP.nil
    · exact sums_wf hwa
    · exact wfP.nil
  · rintro e w' ⟨pv, fv, er, out, nx, rfl, hr, hp, hf, hB⟩
    obtain ⟨rfl, rfl, rfl⟩ := sums_epoch hka hrl hr
    exact ⟨pv, fv, rfl, hp, hf, hB⟩
end Go.Proofs.Ytmfndimejnbgkaa.Model
