/-
  Two epochs one behind the other keep what one keeps.
-/
import Derived.Test.YtmfndimejnbgkaaModelKnown
import Derived.Test.YtmfndimejnbgkaaModelPerm
namespace Go.Proofs.Ytmfndimejnbgkaa.Model
open Go Go.RowKit Go.Proofs.Ytmfndimejnbgkaa.Law Go.Proofs.Ytmfndimejnbgkaa.Graph Go.Proofs.Ytmfndimejnbgkaa.Fold

theorem lastF_rising {l : List Pr} (h : Rising l) {p : Pr} (hp : p ∈ l) : lastF l p.key = some p.val := by
  obtain ⟨n, hn⟩ : ∃ n, l.length = n := ⟨_, rfl⟩
  induction n generalizing l with
  | zero => obtain rfl := List.eq_nil_of_length_eq_zero hn; cases hp
  | succ n ih =>
    obtain ⟨r, q, rfl⟩ : ∃ r q, l = r ++ [q] := by
      rcases List.eq_nil_or_concat l with h | ⟨r, p, h⟩
      · subst h; simp at hn
      · exact ⟨r, p, by simpa using h⟩
    rw [lastF_snoc]
    by_cases hk : p.key = q.key
    · rw [if_pos hk, h.key hp (by simp) hk]
    · rw [if_neg hk]
      have hp' : p ∈ r := by
        rcases List.mem_append.1 hp with h1 | h1
        · exact h1
        · exact absurd (by rw [List.mem_singleton.1 h1]) hk
      exact ih (List.Pairwise.sublist (List.sublist_append_left r [q]) h) hp' (by simpa using hn)
theorem lastF_none {l : List Pr} {k : ByteArray} (h : k ∉ keysL l) : lastF l k = none := by
  cases hl : lastF l k with
  | none => rfl
  | some v => exact absurd ((lastF_some l k).1 (by rw [hl]; rfl)) h
theorem behindN_nil {l : List Pr} (h : Rising l) : behindN [] l = l := by
  unfold behindN
  rw [List.nil_append]
  refine rising_ext (tabL_rising (keysL_nodup _) _) h fun p => ?_
  rw [mem_tabL]
  constructor
  · rintro ⟨h1, h2⟩
    obtain ⟨r, hr, e⟩ := mem_keysL.1 h1
    rw [← e, lastF_rising h hr] at h2
    have : p = r := Pr.ext e.symm h2
    rw [this]; exact hr
  · intro hp
    exact ⟨mem_keysL.2 ⟨p, hp, rfl⟩, by rw [lastF_rising h hp]; rfl⟩
/-- The kept values joined in, where each key is kept once. -/
theorem joinIn_fold (x : Int) {l : List Pr} (h : Rising l) (F : ByteArray → Option Nat) (k : ByteArray) : l.foldl (joinIn x) F k = (match lastF l k with | some u => (F k).map fun v => jnN x v u | none => F k) := by
  obtain ⟨n, hn⟩ : ∃ n, l.length = n := ⟨_, rfl⟩
  induction n generalizing l with
  | zero => obtain rfl := List.eq_nil_of_length_eq_zero hn; simp [lastF]
  | succ n ih =>
    obtain ⟨r, q, rfl⟩ : ∃ r q, l = r ++ [q] := by
      rcases List.eq_nil_or_concat l with h | ⟨r, p, h⟩
      · subst h; simp at hn
      · exact ⟨r, p, by simpa using h⟩
    have hr : Rising r := List.Pairwise.sublist (List.sublist_append_left r [q]) h
    have ih := ih hr (by simpa using hn)
    rw [List.foldl_append, lastF_snoc]
    show joinIn x (r.foldl (joinIn x) F) q k = _
    unfold joinIn
    by_cases hk : k = q.key
    · rw [if_pos hk, if_pos hk]
      have hno : lastF r k = none := lastF_none fun hc => by
        obtain ⟨p, hp, e⟩ := mem_keysL.1 hc
        have h1 := (List.pairwise_append.1 h).2.2 p hp q (by simp)
        rw [e, hk, ltN_irr] at h1; cases h1
      have ih' : r.foldl (joinIn x) F k = F k := by rw [ih, hno]
      show ((r.foldl (joinIn x) F) k).map _ = _
      rw [ih']
    · rw [if_neg hk, if_neg hk]
      exact ih
theorem keysL_append {a b : List Pr} {k : ByteArray} : k ∈ keysL (a ++ b) ↔ k ∈ keysL a ∨ k ∈ keysL b := by
  simp only [mem_keysL, List.mem_append]
  constructor
  · rintro ⟨p, h | h, e⟩
    · exact .inl ⟨p, h, e⟩
    · exact .inr ⟨p, h, e⟩
  · rintro (⟨p, h, e⟩ | ⟨p, h, e⟩)
    · exact ⟨p, .inl h, e⟩
    · exact ⟨p, .inr h, e⟩
theorem valsOf_append (a b : List Pr) (k : ByteArray) : valsOf (a ++ b) k = valsOf a k ++ valsOf b k := by
  unfold valsOf; rw [List.filter_append, List.map_append]
theorem grpF_append (x : Int) (a b : List Pr) (k : ByteArray) : grpF x (a ++ b) k = oj x (grpF x a k) (grpF x b k) := by
  unfold grpF; rw [valsOf_append, foO_append]
theorem grpF_none {x : Int} {l : List Pr} {k : ByteArray} (h : k ∉ keysL l) : grpF x l k = none := by
  cases hg : grpF x l k with
  | none => rfl
  | some v => exact absurd (grpF_some.1 (by rw [hg]; rfl)) h
theorem folded_rising (x : Int) (l kept : List Pr) : Rising (foldedN x l kept) := tabL_rising (keysL_nodup _) _
theorem folded_keys {x : Int} {l kept : List Pr} {k : ByteArray} : k ∈ keysL (foldedN x l kept) ↔ k ∈ keysL l := by
  rw [mem_keysL]
  constructor
  · rintro ⟨p, hp, rfl⟩; exact (mem_tabL.1 hp).1
  · intro h; exact ⟨⟨k, (kept.foldl (joinIn x) (grpF x l) k).getD 0⟩, mem_tabL.2 ⟨h, rfl⟩, rfl⟩
/-- What a fold tells of a key. -/
theorem folded_last (x : Int) (l kept : List Pr) {k : ByteArray} (h : k ∈ keysL l) : lastF (foldedN x l kept) k = some ((kept.foldl (joinIn x) (grpF x l) k).getD 0) :=
  lastF_rising (folded_rising x l kept) (p := ⟨k, (kept.foldl (joinIn x) (grpF x l) k).getD 0⟩) (mem_tabL.2 ⟨h, rfl⟩)
/-- The second epoch's values are those of both. -/
theorem second_val (x : Int) (a b : List Pr) {k : ByteArray} (h : k ∈ keysL b) : ((foldedN x a []).foldl (joinIn x) (grpF x b) k) = grpF x (a ++ b) k := by
  rw [joinIn_fold x (folded_rising x a []), grpF_append]
  by_cases ha : k ∈ keysL a
  · rw [folded_last x a [] ha]
    show (grpF x b k).map _ = _
    obtain ⟨v, hv⟩ := Option.isSome_iff_exists.1 (grpF_some.2 h)
    obtain ⟨u, hu⟩ := Option.isSome_iff_exists.1 (grpF_some.2 ha)
    rw [hv]
    show some (jnN x v ((grpF x a k).getD 0)) = _
    rw [hu]
    show some (jnN x v u) = some (jnN x u v)
    rw [jnN_comm]
  · rw [lastF_none (fun hc => ha (folded_keys.1 hc)), grpF_none ha]
    cases grpF x b k <;> rfl
/-- Two epochs keep what one keeps. -/
theorem behind_two (x : Int) (a b : List Pr) : behindN (foldedN x a []) (foldedN x b (foldedN x a [])) = foldedN x (a ++ b) [] := by
  unfold behindN
  refine tabL_congr (keysL_nodup _) (keysL_nodup _) (fun k => ?_) fun k hk => ?_
  · rw [keysL_append, keysL_append, folded_keys, folded_keys]
  · rw [lastF_append]
    unfold overF
    show _ = grpF x (a ++ b) k
    by_cases hb : k ∈ keysL b
    · rw [folded_last x b _ hb, second_val x a b hb]
      obtain ⟨v, hv⟩ := Option.isSome_iff_exists.1 (grpF_some.2 (show k ∈ keysL (a ++ b) from keysL_append.2 (.inr hb)))
      rw [hv]
      rfl
    · rw [lastF_none (fun hc => hb (folded_keys.1 hc))]
      have ha : k ∈ keysL a := by
        rcases keysL_append.1 hk with h1 | h1
        · exact folded_keys.1 h1
        · exact absurd (folded_keys.1 h1) hb
      show lastF (foldedN x a []) k = _
      rw [folded_last x a [] ha, grpF_append, grpF_none (show k ∉ keysL b from hb), oj_none]
      obtain ⟨u, hu⟩ := Option.isSome_iff_exists.1 (grpF_some.2 ha)
      show some ((grpF x a k).getD 0) = _
      rw [hu]
      rfl
/-- What comes of the second epoch is in what comes of both. -/
theorem second_in (x : Int) (a b : List Pr) {p : Pr} (hp : p ∈ foldedN x b (foldedN x a [])) : p ∈ foldedN x (a ++ b) [] := by
  obtain ⟨h1, h2⟩ := mem_tabL.1 hp
  rw [second_val x a b h1] at h2
  exact mem_tabL.2 ⟨keysL_append.2 (.inr h1), h2⟩
theorem passed_sink (l : List Pr) : passedN ⟨8, [1], 0, 0, 0, 0, 0⟩ l = l := by
  have h : passOne ⟨8, [1], 0, 0, 0, 0, 0⟩ = some := by funext p; simp [passOne, turnN]
  unfold passedN
  rw [h, List.filterMap_some]
theorem sum_pairs (x : Int) (kept : List Pr) (recs : List Rc) : pairsL (sumG x) [[], kept, []] recs 3 = [takenN (-1) recs, foldedN x (takenN (-1) recs) kept, foldedN x (takenN (-1) recs) kept] := by
  simp [pairsL, sumG, opN, passed_sink]
theorem sum_at (x : Int) (kept : List Pr) (recs : List Rc) (i : Nat) (hi : i < 3) : pairsAt (sumG x) [[], kept, []] recs i = [takenN (-1) recs, foldedN x (takenN (-1) recs) kept, foldedN x (takenN (-1) recs) kept].getD i [] := by
  rw [← pairsL_get (n := 3) _ _ _ hi, sum_pairs]
theorem taken_len (recs : List Rc) : (takenN (-1) recs).length ≤ recs.length := by
  unfold takenN; rw [List.length_map]; exact List.length_filter_le _ _
theorem folded_len (x : Int) (l kept : List Pr) : (foldedN x l kept).length ≤ l.length := by
  unfold foldedN; rw [tabL_length]; exact keysL_len l
/-- What the graph that folds tells and keeps. -/
theorem sum_run {x : Int} (h0 : 0 ≤ x) (h1 : x < 7) {st : List (List Pr)} {kept : List Pr} (hst : (st = [] ∧ kept = []) ∨ (st = [[], kept, []] ∧ Rising kept ∧ ∀ p ∈ kept, p.key.size ≤ 32)) {recs : List Rc} (hlen : recs.length ≤ 512) {er : Int} {out : List Pr} {nx : List (List Pr)}
    (h : RunR (sumG x) st recs er out nx) : er = 0 ∧ out = foldedN x (takenN (-1) recs) kept ∧ nx = [[], behindN kept (foldedN x (takenN (-1) recs) kept), []] := by
  have hf : foldsL (sumG x) st = [[], kept, []] := by
    rcases hst with ⟨rfl, rfl⟩ | ⟨rfl, _⟩ <;> rfl
  have hgd : goodS (sumG x) st := by
    rcases hst with ⟨rfl, rfl⟩ | ⟨rfl, hr, hk⟩
    · exact .inl rfl
    · refine .inr ⟨rfl, fun i l o hl ho => ?_⟩
      have hi : i < 3 := (List.getElem?_eq_some_iff.1 hl).1
      rcases (by omega : i = 0 ∨ i = 1 ∨ i = 2) with rfl | rfl | rfl
      · obtain rfl : ([] : List Pr) = l := by simpa using hl
        exact ⟨.inr rfl, List.Pairwise.nil, fun p hp => by cases hp⟩
      · obtain rfl : kept = l := by simpa using hl
        obtain rfl : (⟨4, [0], x, 0, 0, 0, 0⟩ : Opr) = o := by simpa [sumG] using ho
        exact ⟨.inl rfl, hr, hk⟩
      · obtain rfl : ([] : List Pr) = l := by simpa using hl
        exact ⟨.inr rfl, List.Pairwise.nil, fun p hp => by cases hp⟩
  have hT := taken_len recs
  have hF := folded_len x (takenN (-1) recs) kept
  refine h.uniq (.inr (.inr (.inr ⟨sumG_good x h0 h1, hgd, hlen, fun i hi => ?_, rfl, ?_, ?_⟩)))
  · have hi' : i < 3 := hi
    rw [hf, sum_at x kept recs i hi']
    rcases (by omega : i = 0 ∨ i = 1 ∨ i = 2) with rfl | rfl | rfl
    · show (takenN (-1) recs).length ≤ 4096; omega
    · show (foldedN x (takenN (-1) recs) kept).length ≤ 4096; omega
    · show (foldedN x (takenN (-1) recs) kept).length ≤ 4096; omega
  · rw [hf]
    show foldedN x (takenN (-1) recs) kept = ordN (pairsAt (sumG x) [[], kept, []] recs 2)
    rw [sum_at x kept recs 2 (by decide)]
    exact ordN_of (List.Perm.refl _) (folded_rising x _ _).ordered
  · rw [hf]
    have : List.range (sumG x).length = [0, 1, 2] := rfl
    unfold stateN
    rw [this]
    simp only [List.map_cons, List.map_nil]
    rw [sum_at x kept recs 0 (by decide), sum_at x kept recs 1 (by decide), sum_at x kept recs 2 (by decide)]
    simp [sumG]
theorem taken_append (a b : List Rc) : takenN (-1) (a ++ b) = takenN (-1) a ++ takenN (-1) b := by
  unfold takenN; rw [List.filter_append, List.map_append]
theorem taken_keys {recs : List Rc} (h : ∀ r ∈ recs, r.key.size ≤ 32) (x : Int) (kept : List Pr) : ∀ p ∈ foldedN x (takenN (-1) recs) kept, p.key.size ≤ 32 := fun p hp => by
  obtain ⟨q, hq, e⟩ := mem_keysL.1 (mem_tabL.1 hp).1
  obtain ⟨r, hr, rfl⟩ := List.mem_map.1 hq
  rw [← e]
  exact h r (List.mem_filter.1 hr).1
/-- What the law asks of the three runs. -/
theorem epochs_run {x : Int} (h0 : 0 ≤ x) (h1 : x < 7) {recs : List Rc} (hlen : recs.length ≤ 512) (hk : ∀ r ∈ recs, r.key.size ≤ 32) (c : Nat) {e f g : Int} {l o m : List Pr} {s a b : List (List Pr)}
    (hs : RunR (sumG x) [] recs e l s) (ha : RunR (sumG x) [] (recs.take c) f o a) (hb : RunR (sumG x) a (recs.drop c) g m b) :
    e = 0 ∧ f = 0 ∧ g = 0 ∧ s = b ∧ s = [[], l, []] ∧ ∀ p ∈ m, p ∈ l := by
  obtain ⟨e1, l1, s1⟩ := sum_run h0 h1 (kept := []) (.inl ⟨rfl, rfl⟩) hlen hs
  obtain ⟨f1, o1, a1⟩ := sum_run h0 h1 (kept := []) (.inl ⟨rfl, rfl⟩) (by rw [List.length_take]; omega) ha
  rw [behindN_nil (folded_rising x _ _)] at s1 a1
  obtain ⟨g1, m1, b1⟩ := sum_run h0 h1 (kept := foldedN x (takenN (-1) (recs.take c)) []) (.inr ⟨a1, folded_rising x _ _, taken_keys (fun r hr => hk r (List.mem_of_mem_take hr)) x []⟩) (by rw [List.length_drop]; omega) hb
  have hsplit : takenN (-1) recs = takenN (-1) (recs.take c) ++ takenN (-1) (recs.drop c) := by rw [← taken_append, List.take_append_drop]
  rw [behind_two, ← hsplit, ← l1] at b1
  rw [← l1] at s1
  refine ⟨e1, f1, g1, s1.trans b1.symm, s1, fun p hp => ?_⟩
  rw [m1] at hp
  have := second_in x _ _ hp
  rw [← hsplit, ← l1] at this
  exact this

end Go.Proofs.Ytmfndimejnbgkaa.Model
