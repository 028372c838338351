/-
  The model as plain functions of lists: pairs by key, what comes of an epoch, what is kept. Plain definitions and facts, of no program.
-/
import Derived.Test.YtmfndimejnbgkaaTexts
import Derived.Test.YtmfndimejnbgkaaMapOps
import Derived.Test.YtmfndimejnbgkaaGraphMath
import Derived.Test.YtmfndimejnbgkaaFoldMath
namespace Go.Proofs.Ytmfndimejnbgkaa.Model
open Go Go.Proofs.Ytmfndimejnbgkaa.Law Go.Proofs.Ytmfndimejnbgkaa.Graph Go.Proofs.Ytmfndimejnbgkaa.Fold

@[ext] structure Pr where
  key : ByteArray
  val : Nat
deriving DecidableEq
structure Rc where
  producer : Int
  seq : Int
  part : Int
  key : ByteArray
  val : Nat

/-- Ahead of another one? -/
def ltP (a b : Pr) : Bool := ltN a.key b.key || (decide (a.key = b.key) && decide (a.val < b.val))
theorem ltN_irr (a : ByteArray) : ltN a a = false := bytesLess_irr _
theorem ltP_irr (a : Pr) : ltP a a = false := by simp [ltP, ltN_irr]
theorem ltN_asymm {a b : ByteArray} (h : ltN a b = true) : ltN b a = false := by
  cases h2 : ltN b a with
  | false => rfl
  | true => have := ltN_trans h h2; rw [ltN_irr] at this; cases this
theorem ltP_trans {a b c : Pr} (h1 : ltP a b = true) (h2 : ltP b c = true) : ltP a c = true := by
  simp only [ltP, Bool.or_eq_true, Bool.and_eq_true, decide_eq_true_eq] at *
  rcases h1 with h1 | ⟨e1, h1⟩
  · rcases h2 with h2 | ⟨e2, h2⟩
    · exact .inl (ltN_trans h1 h2)
    · exact .inl (e2 ▸ h1)
  · rcases h2 with h2 | ⟨e2, h2⟩
    · exact .inl (e1 ▸ h2)
    · exact .inr ⟨e1.trans e2, by omega⟩
theorem ltP_total {a b : Pr} (h : ltP a b = false) (hne : a ≠ b) : ltP b a = true := by
  simp only [ltP, Bool.or_eq_false_iff, Bool.and_eq_false_iff, decide_eq_false_iff_not] at h
  simp only [ltP, Bool.or_eq_true, Bool.and_eq_true, decide_eq_true_eq]
  by_cases hk : a.key = b.key
  · right
    refine ⟨hk.symm, ?_⟩
    have hv : a.val ≠ b.val := fun e => hne (Pr.ext hk e)
    have := h.2.resolve_left (fun e => e hk)
    omega
  · exact .inl (ltN_total h.1 hk)
theorem ltP_asymm {a b : Pr} (h : ltP a b = true) : ltP b a = false := by
  cases h2 : ltP b a with
  | false => rfl
  | true => have := ltP_trans h h2; rw [ltP_irr] at this; cases this
/-- In order: none stands behind a greater one. -/
def Ordered (l : List Pr) : Prop := l.Pairwise fun a b => ltP b a = false
theorem ordered_uniq {l m : List Pr} (hp : l.Perm m) (hl : Ordered l) (hm : Ordered m) : l = m := by
  refine List.Perm.eq_of_pairwise (le := fun a b => ltP b a = false) (fun a b _ _ h1 h2 => ?_) hl hm hp
  by_cases h : a = b
  · exact h
  · have := ltP_total h1 (Ne.symm h)
    rw [h2] at this; cases this
def ordN (l : List Pr) : List Pr := l.mergeSort fun a b => !ltP b a
theorem ordN_perm (l : List Pr) : (ordN l).Perm l := List.mergeSort_perm _ _
theorem ordN_ordered (l : List Pr) : Ordered (ordN l) := by
  have h := List.pairwise_mergeSort (le := fun a b => !ltP b a) ?_ ?_ l
  · exact h.imp fun h => by simpa using h
  · intro a b c h1 h2
    simp only [Bool.not_eq_true'] at *
    cases h : ltP c a with
    | false => rfl
    | true =>
      exfalso
      by_cases hab : a = b
      · subst hab; rw [h2] at h; cases h
      · have := ltP_trans h (ltP_total h1 (Ne.symm hab))
        rw [h2] at this; cases this
  · intro a b
    cases h : ltP b a with
    | false => rfl
    | true => rw [ltP_asymm h]; rfl
theorem ordN_of {l m : List Pr} (hp : m.Perm l) (hm : Ordered m) : m = ordN l := ordered_uniq (hp.trans (ordN_perm l).symm) hm (ordN_ordered l)
theorem ordN_congr {l m : List Pr} (hp : l.Perm m) : ordN l = ordN m := ordN_of ((ordN_perm l).trans hp) (ordN_ordered l)
theorem ordN_length (l : List Pr) : (ordN l).length = l.length := (ordN_perm l).length_eq

/-- Rising by key, each key once. -/
def Rising (l : List Pr) : Prop := l.Pairwise fun a b => ltN a.key b.key = true
theorem Rising.ordered {l : List Pr} (h : Rising l) : Ordered l := List.Pairwise.imp (fun {a b} h => ltP_asymm (by simp [ltP, h])) h
theorem Rising.nodup {l : List Pr} (h : Rising l) : l.Nodup := List.Pairwise.imp (fun {a b} h e => by subst e; rw [ltN_irr] at h; cases h) h
theorem Rising.key {l : List Pr} (h : Rising l) {a b : Pr} (ha : a ∈ l) (hb : b ∈ l) (e : a.key = b.key) : a = b := by
  induction h with
  | nil => cases ha
  | cons h1 _ ih =>
    rcases List.mem_cons.1 ha with ha | ha <;> rcases List.mem_cons.1 hb with hb | hb
    · exact ha.trans hb.symm
    · have := h1 b hb; rw [← ha, e, ltN_irr] at this; cases this
    · have := h1 a ha; rw [← hb, e, ltN_irr] at this; cases this
    · exact ih ha hb
theorem rising_ext {l m : List Pr} (hl : Rising l) (hm : Rising m) (h : ∀ p, p ∈ l ↔ p ∈ m) : l = m :=
  ordered_uniq ((List.perm_ext_iff_of_nodup hl.nodup hm.nodup).2 h) hl.ordered hm.ordered

/-- The keys of pairs, each once. -/
def keysL (l : List Pr) : List ByteArray := l.foldl (fun (acc : List ByteArray) (p : Pr) => if p.key ∈ acc then acc else acc ++ [p.key]) []
theorem keysL_snoc (l : List Pr) (p : Pr) : keysL (l ++ [p]) = if p.key ∈ keysL l then keysL l else keysL l ++ [p.key] := by
  unfold keysL
  rw [List.foldl_append]
  rfl
theorem keysL_spec (l : List Pr) : (keysL l).Nodup ∧ (∀ k, k ∈ keysL l ↔ ∃ p ∈ l, p.key = k) ∧ (keysL l).length ≤ l.length := by
  obtain ⟨n, hn⟩ : ∃ n, l.length = n := ⟨_, rfl⟩
  induction n generalizing l with
  | zero => obtain rfl := List.eq_nil_of_length_eq_zero hn; simp [keysL]
  | succ n ih =>
    obtain ⟨r, p, rfl⟩ : ∃ r p, l = r ++ [p] := by
      rcases List.eq_nil_or_concat l with h | ⟨r, p, h⟩
      · subst h; simp at hn
      · exact ⟨r, p, by simpa using h⟩
    obtain ⟨h1, h2, h3⟩ := ih r (by simpa using hn)
    rw [keysL_snoc]
    split
    · rename_i h
      refine ⟨h1, fun k => ?_, by simp; omega⟩
      rw [h2 k]
      constructor
      · rintro ⟨q, hq, e⟩; exact ⟨q, by simp [hq], e⟩
      · rintro ⟨q, hq, e⟩
        rcases List.mem_append.1 hq with hq | hq
        · exact ⟨q, hq, e⟩
        · obtain rfl : q = p := by simpa using hq
          subst e
          exact (h2 _).1 h
    · rename_i h
      refine ⟨List.nodup_append.2 ⟨h1, by simp, fun a ha b hb => ?_⟩, fun k => ?_, by simp; omega⟩
      · obtain rfl : b = p.key := by simpa using hb
        exact fun e => h (e ▸ ha)
      · rw [List.mem_append, h2 k]
        constructor
        · rintro (⟨q, hq, e⟩ | hk)
          · exact ⟨q, by simp [hq], e⟩
          · exact ⟨p, by simp, by simpa using (List.mem_singleton.1 hk).symm⟩
        · rintro ⟨q, hq, e⟩
          rcases List.mem_append.1 hq with hq | hq
          · exact .inl ⟨q, hq, e⟩
          · obtain rfl : q = p := by simpa using hq
            exact .inr (by simp [e])
theorem keysL_nodup (l : List Pr) : (keysL l).Nodup := (keysL_spec l).1
theorem mem_keysL {l : List Pr} {k : ByteArray} : k ∈ keysL l ↔ ∃ p ∈ l, p.key = k := (keysL_spec l).2.1 k
theorem keysL_len (l : List Pr) : (keysL l).length ≤ l.length := (keysL_spec l).2.2

/-- A table as pairs. -/
def tabL (ks : List ByteArray) (F : ByteArray → Option Nat) : List Pr := (sortN ks).map fun k => ⟨k, (F k).getD 0⟩
theorem tabL_rising {ks : List ByteArray} (hn : ks.Nodup) (F : ByteArray → Option Nat) : Rising (tabL ks F) := by
  unfold tabL Rising
  rw [List.pairwise_map]
  exact sortN_sorted hn
theorem mem_tabL {ks : List ByteArray} {F : ByteArray → Option Nat} {p : Pr} : p ∈ tabL ks F ↔ p.key ∈ ks ∧ p.val = (F p.key).getD 0 := by
  unfold tabL
  rw [List.mem_map]
  constructor
  · rintro ⟨k, hk, rfl⟩
    exact ⟨(sortN_perm ks).mem_iff.1 hk, rfl⟩
  · rintro ⟨h1, h2⟩
    exact ⟨p.key, (sortN_perm ks).mem_iff.2 h1, Pr.ext rfl h2.symm⟩
theorem tabL_length (ks : List ByteArray) (F : ByteArray → Option Nat) : (tabL ks F).length = ks.length := by
  unfold tabL; rw [List.length_map]; exact (sortN_perm ks).length_eq
theorem tabL_congr {ks ms : List ByteArray} {F G : ByteArray → Option Nat} (hk : ks.Nodup) (hm : ms.Nodup) (h : ∀ k, k ∈ ks ↔ k ∈ ms) (hF : ∀ k ∈ ks, F k = G k) : tabL ks F = tabL ms G := by
  refine rising_ext (tabL_rising hk F) (tabL_rising hm G) fun p => ?_
  rw [mem_tabL, mem_tabL, h]
  constructor
  · rintro ⟨h1, h2⟩; exact ⟨h1, by rw [← hF _ ((h _).2 h1)]; exact h2⟩
  · rintro ⟨h1, h2⟩; exact ⟨h1, by rw [hF _ ((h _).2 h1)]; exact h2⟩

/-- The values of a key. -/
def valsOf (l : List Pr) (k : ByteArray) : List Nat := (l.filter fun p => decide (p.key = k)).map (·.val)
theorem valsOf_snoc (l : List Pr) (p : Pr) (k : ByteArray) : valsOf (l ++ [p]) k = if k = p.key then valsOf l k ++ [p.val] else valsOf l k := by
  unfold valsOf
  rw [List.filter_append, List.map_append]
  by_cases h : k = p.key
  · subst h; simp
  · simp [h, Ne.symm h]
theorem valsOf_perm {l m : List Pr} (h : l.Perm m) (k : ByteArray) : (valsOf l k).Perm (valsOf m k) := (h.filter _).map _
theorem valsOf_nil {l : List Pr} {k : ByteArray} : valsOf l k = [] ↔ k ∉ keysL l := by
  rw [mem_keysL, valsOf, List.map_eq_nil_iff, List.filter_eq_nil_iff]
  constructor
  · rintro h ⟨p, hp, e⟩; exact h p hp (by simp [e])
  · rintro h p hp; simp only [decide_eq_true_eq]; exact fun e => h ⟨p, hp, e⟩
theorem valsOf_mem {l : List Pr} {k : ByteArray} {v : Nat} (h : v ∈ valsOf l k) : ∃ p ∈ l, p.key = k ∧ p.val = v := by
  obtain ⟨p, hp, rfl⟩ := List.mem_map.1 h
  rw [List.mem_filter] at hp
  exact ⟨p, hp.1, by simpa using hp.2, rfl⟩
theorem valsOf_len (l : List Pr) (k : ByteArray) : (valsOf l k).length ≤ l.length := by
  unfold valsOf; rw [List.length_map]; exact List.length_filter_le _ _
/-- What comes of all values of a key. -/
def grpF (x : Int) (l : List Pr) : ByteArray → Option Nat := fun k => foO x (valsOf l k)
theorem grpF_some {x : Int} {l : List Pr} {k : ByteArray} : (grpF x l k).isSome ↔ k ∈ keysL l := by
  unfold grpF
  rw [← Decidable.not_iff_not, ← valsOf_nil]
  cases h : valsOf l k with
  | nil => simp [foO]
  | cons a r => obtain ⟨y, hy⟩ := foO_cons x a r; simp [hy]
theorem grpF_perm (x : Int) {l m : List Pr} (h : l.Perm m) (k : ByteArray) : grpF x l k = grpF x m k := foO_perm x (valsOf_perm h k)

def takenN (arg : Int) (recs : List Rc) : List Pr := (recs.filter fun r => decide (arg = -1 ∨ arg = r.part)).map fun r => ⟨r.key, r.val⟩
/-- A value behind at most n rounds. -/
def loopN (o : Opr) : Nat → Nat → Nat
  | 0, v => v
  | n + 1, v => if tsN o.test o.lim (mpN o.arg o.num v) then mpN o.arg o.num v else loopN o n (mpN o.arg o.num v)
def turnN (o : Opr) (v : Nat) : Nat := if o.kind = 2 then mpN o.arg o.num v else if o.kind = 7 then loopN o o.rounds.toNat v else v
def passOne (o : Opr) (p : Pr) : Option Pr := if o.kind = 3 ∧ tsN o.arg o.num p.val = false then none else some ⟨p.key, turnN o p.val⟩
def passedN (o : Opr) (l : List Pr) : List Pr := l.filterMap (passOne o)
/-- A table with the kept values joined in, one by one. -/
def joinIn (x : Int) (F : ByteArray → Option Nat) (p : Pr) : ByteArray → Option Nat := fun k => if k = p.key then (F k).map fun v => jnN x v p.val else F k
def foldedN (x : Int) (l kept : List Pr) : List Pr := tabL (keysL l) (kept.foldl (joinIn x) (grpF x l))
def bothF (x : Int) (a b : List Pr) : ByteArray → Option Nat := fun k => match grpF x a k, grpF x b k with | some v, some u => some (jnN x v u) | _, _ => none
def joinedN (x : Int) (a b : List Pr) : List Pr := tabL ((keysL a).filter fun k => decide (k ∈ keysL b)) (bothF x a b)
/-- The last value of each key. -/
def lastF (l : List Pr) : ByteArray → Option Nat := l.foldl (fun F p k => if k = p.key then some p.val else F k) fun _ => none
theorem lastF_snoc (l : List Pr) (p : Pr) (k : ByteArray) : lastF (l ++ [p]) k = if k = p.key then some p.val else lastF l k := by simp [lastF]
theorem lastF_some (l : List Pr) (k : ByteArray) : (lastF l k).isSome ↔ k ∈ keysL l := by
  obtain ⟨n, hn⟩ : ∃ n, l.length = n := ⟨_, rfl⟩
  induction n generalizing l with
  | zero => obtain rfl := List.eq_nil_of_length_eq_zero hn; simp [lastF, keysL]
  | succ n ih =>
    obtain ⟨r, p, rfl⟩ : ∃ r p, l = r ++ [p] := by
      rcases List.eq_nil_or_concat l with h | ⟨r, p, h⟩
      · subst h; simp at hn
      · exact ⟨r, p, by simpa using h⟩
    have := ih r (by simpa using hn)
    rw [lastF_snoc, keysL_snoc]
    by_cases hk : k = p.key
    · subst hk
      rw [if_pos rfl]
      split
      · rename_i h; simpa using h
      · simp
    · rw [if_neg hk, this]
      split <;> simp [hk]
def behindN (kept now : List Pr) : List Pr := tabL (keysL (kept ++ now)) (lastF (kept ++ now))

/-- The pairs at an operator, by those at the ones ahead. -/
def opN (o : Opr) (ps : List (List Pr)) (kept : List Pr) (recs : List Rc) : List Pr :=
  if o.kind = 1 then takenN o.arg recs
  else if o.kind = 6 then ps.getD (o.ins.getD 0 0).toNat [] ++ ps.getD (o.ins.getD 1 0).toNat []
  else if o.kind = 5 then joinedN o.arg (ps.getD (o.ins.getD 0 0).toNat []) (ps.getD (o.ins.getD 1 0).toNat [])
  else if o.kind = 4 then foldedN o.arg (ps.getD (o.ins.getD 0 0).toNat []) kept
  else passedN o (ps.getD (o.ins.getD 0 0).toNat [])
/-- A state's lists; one without lists is the empty one. -/
def foldsL (g : List Opr) (st : List (List Pr)) : List (List Pr) := if st.length = 0 then List.replicate g.length [] else st
def pairsL (g : List Opr) (st : List (List Pr)) (recs : List Rc) : Nat → List (List Pr)
  | 0 => []
  | n + 1 => pairsL g st recs n ++ [opN (g.getD n ⟨0, [], 0, 0, 0, 0, 0⟩) (pairsL g st recs n) (st.getD n []) recs]
theorem pairsL_length (g : List Opr) (st : List (List Pr)) (recs : List Rc) : ∀ n, (pairsL g st recs n).length = n
  | 0 => rfl
  | n + 1 => by rw [pairsL, List.length_append, pairsL_length g st recs n]; rfl
def pairsAt (g : List Opr) (st : List (List Pr)) (recs : List Rc) (i : Nat) : List Pr := (pairsL g st recs (i + 1)).getD i []
theorem pairsL_get (g : List Opr) (st : List (List Pr)) (recs : List Rc) {n i : Nat} (h : i < n) : (pairsL g st recs n).getD i [] = pairsAt g st recs i := by
  induction n with
  | zero => omega
  | succ n ih =>
    by_cases hi : i = n
    · subst hi; rfl
    · have hlt : i < n := by omega
      rw [pairsL, List.getD_eq_getElem?_getD, List.getElem?_append_left (by rw [pairsL_length]; exact hlt), ← List.getD_eq_getElem?_getD, ih hlt]
theorem pairsAt_eq (g : List Opr) (st : List (List Pr)) (recs : List Rc) (i : Nat) : pairsAt g st recs i = opN (g.getD i ⟨0, [], 0, 0, 0, 0, 0⟩) (pairsL g st recs i) (st.getD i []) recs := by
  unfold pairsAt
  rw [pairsL, List.getD_eq_getElem?_getD, List.getElem?_append_right (by rw [pairsL_length]; exact Nat.le_refl _), pairsL_length, Nat.sub_self]
  rfl

/-- Is it a state for the graph? -/
def goodK (l : List Pr) : Prop := Rising l ∧ ∀ p ∈ l, p.key.size ≤ 32
def goodS (g : List Opr) (st : List (List Pr)) : Prop := st.length = 0 ∨ (st.length = g.length ∧ ∀ (i : Nat) (l : List Pr) (x : Opr), st[i]? = some l → g[i]? = some x → (x.kind = 4 ∨ l = []) ∧ goodK l)
def stateN (g : List Opr) (st : List (List Pr)) (recs : List Rc) : List (List Pr) :=
  (List.range g.length).map fun i => if (g.getD i ⟨0, [], 0, 0, 0, 0, 0⟩).kind = 4 then behindN (st.getD i []) (pairsAt g st recs i) else []
/-- What Run says: the error, what comes out, the state's lists. -/
def RunR (g : List Opr) (st : List (List Pr)) (recs : List Rc) (e : Int) (out : List Pr) (nx : List (List Pr)) : Prop :=
  (¬ goodG g ∧ e = 13 ∧ out = [] ∧ nx = []) ∨
  (goodG g ∧ ¬ goodS g st ∧ e = 3 ∧ out = [] ∧ nx = []) ∨
  (goodG g ∧ goodS g st ∧ (512 < recs.length ∨ ∃ i, i < g.length ∧ 4096 < (pairsAt g (foldsL g st) recs i).length) ∧ e = 2 ∧ out = [] ∧ nx = []) ∨
  (goodG g ∧ goodS g st ∧ recs.length ≤ 512 ∧ (∀ i, i < g.length → (pairsAt g (foldsL g st) recs i).length ≤ 4096) ∧ e = 0 ∧ out = ordN (pairsAt g (foldsL g st) recs (g.length - 1)) ∧ nx = stateN g (foldsL g st) recs)
theorem RunR.uniq {g : List Opr} {st : List (List Pr)} {recs : List Rc} {e e' : Int} {out out' : List Pr} {nx nx' : List (List Pr)} (h : RunR g st recs e out nx) (h' : RunR g st recs e' out' nx') : e = e' ∧ out = out' ∧ nx = nx' := by
  rcases h with ⟨a, rfl, rfl, rfl⟩ | ⟨a, b, rfl, rfl, rfl⟩ | ⟨a, b, c, rfl, rfl, rfl⟩ | ⟨a, b, c, d, rfl, rfl, rfl⟩ <;>
  rcases h' with ⟨a', rfl, rfl, rfl⟩ | ⟨a', b', rfl, rfl, rfl⟩ | ⟨a', b', c', rfl, rfl, rfl⟩ | ⟨a', b', c', d', rfl, rfl, rfl⟩ <;>
  first
  | exact ⟨rfl, rfl, rfl⟩
  | exact absurd a' a
  | exact absurd a a'
  | exact absurd b' b
  | exact absurd b b'
  | (exfalso
     first
     | (rcases c with c | ⟨i, hi, c⟩
        · omega
        · have := d' i hi; omega)
     | (rcases c' with c' | ⟨i, hi, c'⟩
        · omega
        · have := d i hi; omega))

end Go.Proofs.Ytmfndimejnbgkaa.Model
