/-
  Layer 13 in plain words: rows, the order of their places, what was taken last, what a number is, what a table is, and what is taken. Nothing here speaks of a program.
-/
import Derived.Test.YtlcmnemneghohaaLaw
namespace Go.Proofs.Ytlcmnemneghohaa.Dedup

structure Rw where
  p : Int
  q : Int
  n : Int
deriving DecidableEq

/-- What cmp.Compare answers. -/
def cmpI (a b : Int) : Int := if a < b then -1 else if b < a then 1 else 0
def ordI (p q p' q' : Int) : Int := if cmpI p p' = 0 then cmpI q q' else cmpI p p'
theorem cmpI_zero {a b : Int} : cmpI a b = 0 ↔ a = b := by
  unfold cmpI; constructor <;> intro h
  · split at h
    · omega
    · split at h <;> omega
  · subst h; simp
theorem ordI_zero {p q p' q' : Int} : ordI p q p' q' = 0 ↔ p = p' ∧ q = q' := by
  unfold ordI
  split
  · rename_i h; rw [cmpI_zero] at h ⊢; exact ⟨fun e => ⟨h, e⟩, fun e => e.2⟩
  · rename_i h; exact ⟨fun e => absurd e h, fun e => absurd (cmpI_zero.2 e.1) h⟩
def rightN (p q : Int) : Bool := decide (0 ≤ p ∧ p ≤ 63 ∧ 0 ≤ q ∧ q ≤ 7)
theorem rightN_iff {p q : Int} : rightN p q = true ↔ 0 ≤ p ∧ p ≤ 63 ∧ 0 ≤ q ∧ q ≤ 7 := by simp [rightN]
theorem ordI_lt {p q p' q' : Int} (h : rightN p q = true) (h' : rightN p' q' = true) : ordI p q p' q' < 0 ↔ 8 * p + q < 8 * p' + q' := by
  rw [rightN_iff] at h h'
  unfold ordI cmpI
  split <;> split <;> (try split) <;> (try split) <;> omega
theorem ordI_gt {p q p' q' : Int} (h : rightN p q = true) (h' : rightN p' q' = true) : 0 < ordI p q p' q' ↔ 8 * p' + q' < 8 * p + q := by
  rw [rightN_iff] at h h'
  unfold ordI cmpI
  split <;> split <;> (try split) <;> (try split) <;> omega

def isIt (p q : Int) (x : Rw) : Bool := decide (x.p = p ∧ x.q = q)
theorem isIt_iff {p q : Int} {x : Rw} : isIt p q x = true ↔ x.p = p ∧ x.q = q := by simp [isIt]
/-- The last number that was taken. -/
def lastL (l : List Rw) (p q : Int) : Int := ((l.find? (isIt p q)).map Rw.n).getD (-1)
def End : Int := 9223372036854775807
/-- What a number is. -/
def lookL (last seq : Int) : Int := if seq = last ∧ last = 9223372036854775807 then 4 else if seq ≤ last then 2 else if seq = last + 1 then 1 else 3

/-- Is the row at i right, and does it rise (by the order of the code). -/
def okC (l : List Rw) (i : Nat) : Bool :=
  match l[i]? with
  | none => true
  | some x => (match i with | 0 => true | k + 1 => match l[k]? with | none => true | some y => decide (ordI y.p y.q x.p x.q < 0)) && rightN x.p x.q && decide (0 ≤ x.n)
/-- .. by the document's places. -/
def okR (l : List Rw) (i : Nat) : Bool :=
  match l[i]? with
  | none => true
  | some x => (rightN x.p x.q && decide (0 ≤ x.n)) && (match i with | 0 => true | k + 1 => match l[k]? with | none => true | some y => decide (8 * y.p + y.q < 8 * x.p + x.q))
def goodC (l : List Rw) : Bool := (List.range l.length).all (okC l)
def goodR (l : List Rw) : Bool := (List.range l.length).all (okR l)
theorem all_range {n : Nat} {f : Nat → Bool} : (List.range n).all f = true ↔ ∀ i, i < n → f i = true := by
  simp [List.all_eq_true]
theorem good_false {n : Nat} {f : Nat → Bool} {i : Nat} (hi : i < n) (h : f i = false) : (List.range n).all f = false := by
  rw [Bool.eq_false_iff]
  intro hc
  have := all_range.1 hc i hi
  rw [h] at this; cases this

/-- A table. -/
structure Good (l : List Rw) : Prop where
  right : ∀ x ∈ l, rightN x.p x.q = true ∧ 0 ≤ x.n
  rises : ∀ (k : Nat) (x y : Rw), l[k]? = some x → l[k + 1]? = some y → 8 * x.p + x.q < 8 * y.p + y.q

theorem okR_right {l : List Rw} {i : Nat} {x : Rw} (hx : l[i]? = some x) (h : okR l i = true) : rightN x.p x.q = true ∧ 0 ≤ x.n := by
  unfold okR at h
  rw [hx] at h
  simp only [Bool.and_eq_true, decide_eq_true_eq] at h
  exact h.1
theorem okC_right {l : List Rw} {i : Nat} {x : Rw} (hx : l[i]? = some x) (h : okC l i = true) : rightN x.p x.q = true ∧ 0 ≤ x.n := by
  unfold okC at h
  rw [hx] at h
  simp only [Bool.and_eq_true, decide_eq_true_eq] at h
  exact ⟨h.1.2, h.2⟩
theorem goodR_iff (l : List Rw) : goodR l = true ↔ Good l := by
  unfold goodR
  rw [all_range]
  constructor
  · intro h
    have hr : ∀ x ∈ l, rightN x.p x.q = true ∧ 0 ≤ x.n := fun x hx => by
      obtain ⟨i, hi⟩ := List.getElem?_of_mem hx
      exact okR_right hi (h i (List.getElem?_eq_some_iff.1 hi).1)
    refine ⟨hr, fun k x y hx hy => ?_⟩
    have := h (k + 1) (List.getElem?_eq_some_iff.1 hy).1
    unfold okR at this
    rw [hy] at this
    simp only [hx, Bool.and_eq_true, decide_eq_true_eq] at this
    exact this.2
  · intro h i hi
    unfold okR
    rw [List.getElem?_eq_getElem hi]
    have h1 := h.right l[i] (List.getElem_mem _)
    simp only [Bool.and_eq_true, decide_eq_true_eq]
    refine ⟨h1, ?_⟩
    cases i with
    | zero => rfl
    | succ k =>
      have := h.rises k l[k] l[k + 1] (List.getElem?_eq_getElem (by omega)) (List.getElem?_eq_getElem hi)
      simp only [List.getElem?_eq_getElem (show k < l.length by omega), decide_eq_true_eq]
      exact this
theorem goodC_iff (l : List Rw) : goodC l = true ↔ Good l := by
  unfold goodC
  rw [all_range]
  constructor
  · intro h
    have hr : ∀ x ∈ l, rightN x.p x.q = true ∧ 0 ≤ x.n := fun x hx => by
      obtain ⟨i, hi⟩ := List.getElem?_of_mem hx
      exact okC_right hi (h i (List.getElem?_eq_some_iff.1 hi).1)
    refine ⟨hr, fun k x y hx hy => ?_⟩
    have := h (k + 1) (List.getElem?_eq_some_iff.1 hy).1
    unfold okC at this
    rw [hy] at this
    simp only [hx, Bool.and_eq_true, decide_eq_true_eq] at this
    exact (ordI_lt (hr x (List.mem_of_getElem? hx)).1 (hr y (List.mem_of_getElem? hy)).1).1 this.1.1
  · intro h i hi
    unfold okC
    rw [List.getElem?_eq_getElem hi]
    have h1 := h.right l[i] (List.getElem_mem _)
    simp only [Bool.and_eq_true, decide_eq_true_eq]
    refine ⟨⟨?_, h1.1⟩, h1.2⟩
    cases i with
    | zero => rfl
    | succ k =>
      have := h.rises k l[k] l[k + 1] (List.getElem?_eq_getElem (by omega)) (List.getElem?_eq_getElem hi)
      simp only [List.getElem?_eq_getElem (show k < l.length by omega), decide_eq_true_eq]
      exact (ordI_lt (h.right l[k] (List.getElem_mem _)).1 h1.1).2 this
theorem good_same (l : List Rw) : goodC l = goodR l := by
  rw [Bool.eq_iff_iff, goodC_iff, goodR_iff]

/-- The number of a place. -/
def key (x : Rw) : Int := 8 * x.p + x.q
theorem Good.lt {l : List Rw} (h : Good l) : ∀ (d i : Nat) (x y : Rw), l[i]? = some x → l[i + d + 1]? = some y → key x < key y
  | 0, i, x, y, hx, hy => h.rises i x y hx hy
  | d + 1, i, x, y, hx, hy => by
    have hl := (List.getElem?_eq_some_iff.1 hy).1
    have hz := List.getElem?_eq_getElem (l := l) (i := i + d + 1) (by omega)
    have h1 := h.lt d i x _ hx hz
    have h2 := h.rises (i + d + 1) _ y hz hy
    unfold key at *; omega
theorem Good.lt' {l : List Rw} (h : Good l) {i j : Nat} {x y : Rw} (hij : i < j) (hx : l[i]? = some x) (hy : l[j]? = some y) : key x < key y := by
  have e : j = i + (j - i - 1) + 1 := by omega
  rw [e] at hy
  exact h.lt _ i x y hx hy
theorem Good.pairwise {l : List Rw} (h : Good l) : l.Pairwise (fun x y => key x < key y) := by
  rw [List.pairwise_iff_getElem]
  intro i j hi hj hij
  exact h.lt' hij (List.getElem?_eq_getElem hi) (List.getElem?_eq_getElem hj)
theorem good_of_pairwise {l : List Rw} (hr : ∀ x ∈ l, rightN x.p x.q = true ∧ 0 ≤ x.n) (h : l.Pairwise (fun x y => key x < key y)) : Good l := by
  refine ⟨hr, fun k x y hx hy => ?_⟩
  obtain ⟨hi, rfl⟩ := List.getElem?_eq_some_iff.1 hx
  obtain ⟨hj, rfl⟩ := List.getElem?_eq_some_iff.1 hy
  exact List.pairwise_iff_getElem.1 h k (k + 1) hi hj (by omega)
theorem good_nil : Good [] where
  right := fun x hx => absurd hx (by simp)
  rises := fun k x y hx => by simp at hx

/-- The rows of a table behind a number that is taken. -/
def takeS (l : List Rw) (p q n : Int) : List Rw := l.filter (fun x => decide (key x < 8 * p + q)) ++ ⟨p, q, n⟩ :: l.filter (fun x => decide (8 * p + q < key x))
theorem key_eq {x : Rw} {p q : Int} (hx : rightN x.p x.q = true) (h : rightN p q = true) : key x = 8 * p + q ↔ x.p = p ∧ x.q = q := by
  rw [rightN_iff] at hx h
  unfold key
  omega
theorem Good.take {l : List Rw} (h : Good l) {p q n : Int} (hr : rightN p q = true) (hn : 0 ≤ n) : Good (takeS l p q n) := by
  refine good_of_pairwise (fun x hx => ?_) ?_
  · unfold takeS at hx
    rcases List.mem_append.1 hx with hx | hx
    · exact h.right x ((List.mem_filter.1 hx).1)
    · rcases List.mem_cons.1 hx with rfl | hx
      · exact ⟨hr, hn⟩
      · exact h.right x ((List.mem_filter.1 hx).1)
  · unfold takeS
    rw [List.pairwise_append]
    refine ⟨h.pairwise.filter _, ?_, ?_⟩
    · rw [List.pairwise_cons]
      exact ⟨fun y hy => by have := (List.mem_filter.1 hy).2; rw [decide_eq_true_eq] at this; exact this, h.pairwise.filter _⟩
    · intro x hx y hy
      have h1 : key x < 8 * p + q := by simpa using (List.mem_filter.1 hx).2
      rcases List.mem_cons.1 hy with rfl | hy
      · exact h1
      · have : 8 * p + q < key y := by simpa using (List.mem_filter.1 hy).2
        omega

/-- A sorted list parted at a key. -/
theorem filter_lt_of {l₁ l₂ : List Rw} {K : Int} (h1 : ∀ x ∈ l₁, key x < K) (h2 : ∀ x ∈ l₂, K < key x) :
    (l₁ ++ l₂).filter (fun x => decide (key x < K)) = l₁ ∧ (l₁ ++ l₂).filter (fun x => decide (K < key x)) = l₂ := by
  constructor
  · rw [List.filter_append, List.filter_eq_self.2 (fun x hx => by simpa using h1 x hx), List.filter_eq_nil_iff.2 (fun x hx => by have := h2 x hx; simp; omega), List.append_nil]
  · rw [List.filter_append, List.filter_eq_nil_iff.2 (fun x hx => by have := h1 x hx; simp; omega), List.filter_eq_self.2 (fun x hx => by simpa using h2 x hx), List.nil_append]
/-- .. where the place is there: what the code does. -/
theorem take_set {l : List Rw} (h : Good l) {p q n : Int} (hr : rightN p q = true) {i : Nat} {x : Rw} (hx : l[i]? = some x) (hi : isIt p q x = true) : takeS l p q n = l.set i ⟨p, q, n⟩ := by
  obtain ⟨hlt, rfl⟩ := List.getElem?_eq_some_iff.1 hx
  have hk : key l[i] = 8 * p + q := (key_eq (h.right _ (List.getElem_mem _)).1 hr).2 (isIt_iff.1 hi)
  have h1 : ∀ y ∈ l.take i, key y < 8 * p + q := fun y hy => by
    obtain ⟨j, hj⟩ := List.getElem?_of_mem hy
    rw [List.getElem?_take] at hj
    split at hj
    · rw [← hk]; exact h.lt' (by assumption) hj hx
    · cases hj
  have h2 : ∀ y ∈ l.drop (i + 1), 8 * p + q < key y := fun y hy => by
    obtain ⟨j, hj⟩ := List.getElem?_of_mem hy
    rw [List.getElem?_drop] at hj
    rw [← hk]; exact h.lt' (by omega) hx hj
  have e : l = l.take i ++ l[i] :: l.drop (i + 1) := by rw [List.getElem_cons_drop, List.take_append_drop]
  have e1 : l.filter (fun x => decide (key x < 8 * p + q)) = l.take i := by
    have := (filter_lt_of h1 h2).1
    conv => lhs; rw [e]
    rw [List.filter_append, List.filter_cons_of_neg (by simp [hk]), ← List.filter_append]
    exact this
  have e2 : l.filter (fun x => decide (8 * p + q < key x)) = l.drop (i + 1) := by
    have := (filter_lt_of h1 h2).2
    conv => lhs; rw [e]
    rw [List.filter_append, List.filter_cons_of_neg (by simp [hk]), ← List.filter_append]
    exact this
  unfold takeS
  rw [e1, e2, List.set_eq_take_append_cons_drop, if_pos hlt]
theorem find_none {l : List Rw} {p q : Int} (h : ∀ x ∈ l, isIt p q x = false) : l.find? (isIt p q) = none := by
  rw [List.find?_eq_none]; intro x hx; rw [h x hx]; simp
theorem take_insert {l : List Rw} (h : Good l) {p q n : Int} (hr : rightN p q = true) (hno : ∀ x ∈ l, isIt p q x = false) {j : Nat} (hj : j ≤ l.length)
    (hlow : ∀ x, j ≠ 0 → l[j - 1]? = some x → ¬ 0 < ordI x.p x.q p q) (hhigh : ∀ x, l[j]? = some x → 0 < ordI x.p x.q p q) : takeS l p q n = l.take j ++ ⟨p, q, n⟩ :: l.drop j := by
  have hne : ∀ x ∈ l, key x ≠ 8 * p + q := fun x hx hk => by
    have := (key_eq (h.right x hx).1 hr).1 hk
    have h2 := hno x hx
    rw [isIt_iff.2 this] at h2; cases h2
  have h1 : ∀ y ∈ l.take j, key y < 8 * p + q := fun y hy => by
    obtain ⟨i, hi⟩ := List.getElem?_of_mem hy
    rw [List.getElem?_take] at hi
    split at hi
    · rename_i hij
      have hz := List.getElem?_eq_getElem (l := l) (i := j - 1) (by omega)
      have h3 := hlow _ (by omega) hz
      rw [ordI_gt (h.right _ (List.getElem_mem _)).1 hr] at h3
      have h4 := hne _ (List.mem_of_getElem? hz)
      have h5 : key l[j - 1] < 8 * p + q := by unfold key at *; omega
      by_cases he : i = j - 1
      · subst he
        rw [hz] at hi
        obtain rfl := Option.some.inj hi
        exact h5
      · have := h.lt' (show i < j - 1 by omega) hi hz
        omega
    · cases hi
  have h2 : ∀ y ∈ l.drop j, 8 * p + q < key y := fun y hy => by
    obtain ⟨i, hi⟩ := List.getElem?_of_mem hy
    rw [List.getElem?_drop] at hi
    have hlt := (List.getElem?_eq_some_iff.1 hi).1
    have hz := List.getElem?_eq_getElem (l := l) (i := j) (by omega)
    have h3 := hhigh _ hz
    rw [ordI_gt (h.right _ (List.getElem_mem _)).1 hr] at h3
    have h5 : 8 * p + q < key l[j] := h3
    by_cases he : i = 0
    · subst he
      rw [Nat.add_zero, hz] at hi
      obtain rfl := Option.some.inj hi
      exact h5
    · have := h.lt' (show j < j + i by omega) hz hi
      omega
  have := filter_lt_of h1 h2
  rw [List.take_append_drop] at this
  unfold takeS
  rw [this.1, this.2]

/-- What was taken last, behind a number that is taken: there, and elsewhere. -/
theorem find_append {a b : List Rw} {f : Rw → Bool} (h : ∀ x ∈ a, f x = false) : (a ++ b).find? f = b.find? f := by
  rw [List.find?_append, List.find?_eq_none.2 (fun x hx => by rw [h x hx]; simp)]; rfl
theorem last_take {l : List Rw} (h : Good l) {p q n : Int} (hr : rightN p q = true) : lastL (takeS l p q n) p q = n := by
  unfold lastL takeS
  rw [find_append (fun x hx => by
    have hm := List.mem_filter.1 hx
    have hk : key x < 8 * p + q := by simpa using hm.2
    rw [Bool.eq_false_iff]; intro hc
    have := (key_eq (h.right x hm.1).1 hr).2 (isIt_iff.1 hc)
    omega), List.find?_cons_of_pos (by simp [isIt])]
  rfl
theorem find_filter {l : List Rw} {f g : Rw → Bool} (h : ∀ x ∈ l, f x = true → g x = true) : (l.filter g).find? f = l.find? f := by
  induction l with
  | nil => rfl
  | cons x r ih =>
    have ih := ih (fun y hy => h y (List.mem_cons_of_mem _ hy))
    by_cases hf : f x = true
    · rw [List.filter_cons_of_pos (h x List.mem_cons_self hf), List.find?_cons_of_pos hf, List.find?_cons_of_pos hf]
    · rw [List.find?_cons_of_neg hf, ← ih]
      by_cases hg : g x = true
      · rw [List.filter_cons_of_pos hg, List.find?_cons_of_neg hf]
      · rw [List.filter_cons_of_neg hg]
theorem last_other {l : List Rw} (h : Good l) {p q n p' q' : Int} (hr : rightN p q = true) (hne : ¬ (p' = p ∧ q' = q)) : lastL (takeS l p q n) p' q' = lastL l p' q' := by
  unfold lastL takeS
  congr 2
  have hx1 : isIt p' q' ⟨p, q, n⟩ = false := by
    rw [Bool.eq_false_iff]; intro hc
    have := isIt_iff.1 hc
    exact hne ⟨this.1.symm, this.2.symm⟩
  by_cases hr' : rightN p' q' = true
  · rcases Int.lt_trichotomy (8 * p' + q') (8 * p + q) with hlt | heq | hgt
    · rw [List.find?_append]
      have e := find_filter (l := l) (f := isIt p' q') (g := fun x => decide (key x < 8 * p + q)) (fun x hx hf => by
        have := (key_eq (h.right x hx).1 hr').2 (isIt_iff.1 hf)
        simp; omega)
      rw [e]
      cases hf : l.find? (isIt p' q') with
      | some y => rfl
      | none =>
        rw [Option.none_or, List.find?_cons_of_neg (by rw [hx1]; simp), List.find?_eq_none]
        intro x hx hc
        have := List.find?_eq_none.1 hf x ((List.mem_filter.1 hx).1)
        exact this hc
    · exfalso
      rw [rightN_iff] at hr hr'
      apply hne
      omega
    · rw [find_append (fun x hx => by
        have hm := List.mem_filter.1 hx
        have hk : key x < 8 * p + q := by simpa using hm.2
        rw [Bool.eq_false_iff]; intro hc
        have := (key_eq (h.right x hm.1).1 hr').2 (isIt_iff.1 hc)
        omega), List.find?_cons_of_neg (by rw [hx1]; simp)]
      exact find_filter (fun x hx hf => by
        have := (key_eq (h.right x hx).1 hr').2 (isIt_iff.1 hf)
        simp; omega)
  · have hno : ∀ x ∈ l, isIt p' q' x = false := fun x hx => by
      rw [Bool.eq_false_iff]; intro hc
      obtain ⟨rfl, rfl⟩ := isIt_iff.1 hc
      exact hr' (h.right x hx).1
    rw [find_none hno, find_append (fun x hx => hno x ((List.mem_filter.1 hx).1)), List.find?_cons_of_neg (by rw [hx1]; simp)]
    exact find_none (fun x hx => hno x ((List.mem_filter.1 hx).1))
theorem last_nil (p q : Int) : lastL [] p q = -1 := rfl
theorem last_none {l : List Rw} {p q : Int} (h : ∀ x ∈ l, isIt p q x = false) : lastL l p q = -1 := by unfold lastL; rw [find_none h]; rfl
theorem last_at {l : List Rw} {p q : Int} {i : Nat} {x : Rw} (hx : l[i]? = some x) (hi : isIt p q x = true) (hlow : ∀ j y, j < i → l[j]? = some y → isIt p q y = false) : lastL l p q = x.n := by
  obtain ⟨hlt, rfl⟩ := List.getElem?_eq_some_iff.1 hx
  unfold lastL
  have e : l = l.take i ++ l[i] :: l.drop (i + 1) := by rw [List.getElem_cons_drop, List.take_append_drop]
  rw [show l.find? (isIt p q) = some l[i] from by
    conv => lhs; rw [e]
    rw [find_append (fun y hy => by
      obtain ⟨j, hj⟩ := List.getElem?_of_mem hy
      rw [List.getElem?_take] at hj
      split at hj
      · exact hlow j y (by assumption) hj
      · cases hj), List.find?_cons_of_pos hi]]
  rfl
theorem last_range {l : List Rw} {p q : Int} (h : ∀ x ∈ l, -9223372036854775808 ≤ x.n ∧ x.n ≤ 9223372036854775807) : -9223372036854775808 ≤ lastL l p q ∧ lastL l p q ≤ 9223372036854775807 := by
  unfold lastL
  cases hf : l.find? (isIt p q) with
  | none => simp
  | some x => exact h x (List.mem_of_find?_eq_some hf)
theorem look_one {last seq : Int} : lookL last seq = 1 ↔ seq = last + 1 := by
  unfold lookL
  split
  · constructor <;> intro h <;> omega
  · split
    · constructor <;> intro h <;> omega
    · split
      · constructor <;> intro h <;> omega
      · constructor <;> intro h <;> omega
end Go.Proofs.Ytlcmnemneghohaa.Dedup
