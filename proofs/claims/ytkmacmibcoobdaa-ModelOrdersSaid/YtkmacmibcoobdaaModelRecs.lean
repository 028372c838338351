/-
  A row of records of the law's own: copied by append, written record by record.
-/
import Derived.Test.YtkmacmibcoobdaaModelKnown
namespace Go.Proofs.Ytkmacmibcoobdaa.Model
open Go Go.RowKit Go.Lib Go.Proofs.Ytkmacmibcoobdaa.Law Go.Proofs.Ytkmacmibcoobdaa.Graph Go.Proofs.Ytkmacmibcoobdaa.Fold

def cells5 (r : Rc) : List Value := [.int .i64 r.producer, .int .i64 r.seq, .int .i64 r.part, .string r.key, .int .u32 (r.val : Nat)]
def flat5 : List Rc → List Value
  | [] => []
  | r :: l => cells5 r ++ flat5 l
theorem flat5_append : ∀ a b : List Rc, flat5 (a ++ b) = flat5 a ++ flat5 b
  | [], _ => rfl
  | x :: a, b => by rw [List.cons_append, flat5, flat5, flat5_append a b, List.append_assoc]
theorem flat5_length : ∀ l : List Rc, (flat5 l).length = l.length * 5
  | [] => rfl
  | r :: l => by rw [flat5, List.length_append, flat5_length l, List.length_cons]; simp [cells5]; omega
theorem flat5_get : ∀ {l : List Rc} {j : Nat} {r : Rc}, l[j]? = some r → ∀ i, i < 5 → (flat5 l)[j * 5 + i]? = (cells5 r)[i]?
  | [], _, _, h => by simp at h
  | x :: l, 0, r, h => fun i hi => by
    obtain rfl : x = r := by simpa using h
    rw [flat5, List.getElem?_append_left (by simp [cells5]; omega), Nat.zero_mul, Nat.zero_add]
  | x :: l, j + 1, r, h => fun i hi => by
    have := flat5_get (l := l) (j := j) (r := r) (by simpa using h) i hi
    rw [flat5, List.getElem?_append_right (by simp [cells5]; omega), ← this]
    congr 1
    simp [cells5]; omega
theorem flat5_one : ∀ (l : List Rc), ∀ u ∈ flat5 l, u.oneCell' = true
  | [], _, h => by simp [flat5] at h
  | r :: l, u, h => by
    rw [flat5, List.mem_append] at h
    rcases h with h | h
    · simp only [cells5, List.mem_cons, List.not_mem_nil, or_false] at h
      rcases h with rfl | rfl | rfl | rfl | rfl <;> rfl
    · exact flat5_one l u h
/-- The block holds these records, from its first cell on. -/
def RowR (W : World) (g : Nat) (l : List Rc) : Prop :=
  ∃ cur, W.heap[g]? = some (.cells cur 44) ∧ ∀ (j : Nat) (r : Rc), l[j]? = some r → ∀ i, i < 5 → cur[j * 5 + i]? = (cells5 r)[i]?
theorem RowR.cells {W : World} {g : Nat} {l : List Rc} (h : RowR W g l) {j : Nat} {r : Rc} (hj : l[j]? = some r) : Cells5 W g (j * 5) r := by
  obtain ⟨cur, h1, h2⟩ := h
  have e0 := h2 j r hj 0 (by decide)
  have e1 := h2 j r hj 1 (by decide)
  have e2 := h2 j r hj 2 (by decide)
  have e3 := h2 j r hj 3 (by decide)
  have e4 := h2 j r hj 4 (by decide)
  rw [Nat.add_zero] at e0
  simp [cells5] at e0 e1 e2 e3 e4
  simp [Cells5, World.cell?, h1, e0, e1, e2, e3, e4]
theorem RowR.free {W : World} {g : Nat} {l : List Rc} (h : RowR W g l) (k : Nat) : W.frozen? ⟨g, k, none⟩ = false := by
  obtain ⟨cur, h1, _⟩ := h
  simp [World.frozen?, h1]
theorem RowR.recs {W : World} {g : Nat} {l : List Rc} (h : RowR W g l) (cap : Nat) (hc : l.length ≤ cap) : OldRc W.heap.size W (.slice (some ⟨g, 0, none⟩) l.length cap) l := by
  refine ⟨_, cap, rfl, hc, (fun h => by cases h), fun _ => ⟨g, 0, rfl, ?_, fun j r hj => ?_⟩⟩
  · obtain ⟨cur, h1, _⟩ := h; exact lt_of_some h1
  · rw [Nat.zero_add]; exact h.cells hj
theorem RowR.keep {W W' : World} {g : Nat} {l : List Rc} (h : RowR W g l) (hb : W'.heap[g]? = W.heap[g]?) : RowR W' g l := by
  obtain ⟨cur, h1, h2⟩ := h
  exact ⟨cur, hb.trans h1, h2⟩
theorem elem_rec : Try.prog.underlying 36 = some (.slice 44) := by kernel_rfl
theorem info_rec : (Try.prog.info? 44).map (fun i => (i.zero, i.size, i.bytes)) = some (some (.agg #[.int .i64 0, .int .i64 0, .int .i64 0, .string ⟨#[]⟩, .int .u32 0]), 5, 48) := by kernel_rfl

/-- A copy by append to an empty literal. -/
theorem run_copy {n : Nat} (w : World) (ty : TypeId) {A : Option Addr} {cap : Nat} {l : List Rc} (h : OldRc w.heap.size w (.slice A n cap) l) (hn : l.length = n) (hl : n * 48 ≤ 140737488351232) :
    ∃ B c W', (Builtin.append_ #[36, 36] ty #[.slice (some ⟨w.heap.size, 0, none⟩) 0 0, .slice A n cap]).run Try.prog (w.alloc (.cells #[] 44)) = .ok (.slice B n c) W' ∧ n ≤ c ∧ Below w.heap.size w W' ∧ (B = none → c = 0) ∧
      (0 < n → ∃ g, B = some ⟨g, 0, none⟩ ∧ w.heap.size ≤ g ∧ RowR W' g l) := by
  subst hn
  obtain ⟨i0, hi, hz0, hz1, hz2⟩ := info_parts info_rec
  have hB : Below w.heap.size w (w.alloc (.cells #[] 44)) := (Below.refl _ _).alloc (Nat.le_refl _) _
  have hrow : (w.alloc (.cells #[] 44)).ownsRow w.heap.size 44 5 (.slice (some ⟨w.heap.size, 0, none⟩) 0 0) 0 [] := World.ownsRow_lit (base := w.heap.size) (size := 5) (e := 44) w #[] 0 (Nat.le_refl _) (by decide) rfl
  obtain ⟨A', cap', e, hc1, hc2, hc3⟩ := RecsAt.low hB h
  simp only [Value.slice.injEq] at e
  obtain ⟨rfl, _, rfl⟩ := e
  cases A with
  | none =>
    have h0 : l.length = 0 := by
      rcases Nat.eq_zero_or_pos l.length with h0 | h0
      · exact h0
      · obtain ⟨b, off, he, _⟩ := hc3 h0
        cases he
    obtain rfl : cap = 0 := hc2 rfl
    rw [h0]
    exact ⟨_, 0, _, run_append_owned_none (P := Try.prog) (w := w.alloc (.cells #[] 44)) w.heap.size 36 ty 44 i0 5 elem_rec hi _ 0 [] hrow, Nat.le_refl _, hB, fun _ => rfl, fun h => absurd h (Nat.lt_irrefl _)⟩
  | some a =>
    have hnews : ∀ (j : Nat) (u : Value), (flat5 l)[j]? = some u → (w.alloc (.cells #[] 44)).cell? (a.add j) = some u := by
      intro j u hu
      have hj : j < l.length * 5 := by rw [← flat5_length]; exact (List.getElem?_eq_some_iff.1 hu).1
      obtain ⟨b, off, he, _, hcell⟩ := hc3 (by omega)
      obtain rfl : a = ⟨b, off, none⟩ := by simpa using he
      have hq : j / 5 < l.length := by omega
      obtain ⟨d0, d1, d2, d3, d4⟩ := hcell (j / 5) l[j / 5] (List.getElem?_eq_getElem hq)
      have hget := flat5_get (l := l) (List.getElem?_eq_getElem hq)
      rw [Addr.add_lit]
      obtain ⟨m, hm⟩ : ∃ m, j / 5 = m := ⟨_, rfl⟩
      obtain ⟨r, hr⟩ : ∃ r, l[j / 5] = r := ⟨_, rfl⟩
      rw [hr] at d0 d1 d2 d3 d4 hget
      rw [hm] at d0 d1 d2 d3 d4 hget
      rcases (by omega : j = m * 5 + 0 ∨ j = m * 5 + 1 ∨ j = m * 5 + 2 ∨ j = m * 5 + 3 ∨ j = m * 5 + 4) with e | e | e | e | e
      all_goals
        subst e
        rw [hget _ (by decide)] at hu
        simp only [cells5, List.getElem?_cons_zero, List.getElem?_cons_succ, Option.some.injEq] at hu
        subst hu
        simp only [Nat.add_zero, ← Nat.add_assoc]
        assumption
    obtain ⟨v', W', hrun, h2, h3, _, _⟩ := run_append_own_at (P := Try.prog) (w.alloc (.cells #[] 44)) w.heap.size 36 ty 44 i0 _ 5 48 elem_rec hi hz0 hz1 hz2 rfl (by decide) _ 0 [] hrow a l.length cap (flat5 l) (flat5_length _) hnews (flat5_one l) (by unfold maxLen; omega) (by omega) hB.size
    rw [Nat.zero_add, List.nil_append] at h2
    have hB' : Below w.heap.size w W' := hB.grown h3 hB.size (fun k hk => by simp [Value.ownBlock] at hk; omega)
    rcases h2.2 with ⟨rfl, h0⟩ | ⟨b, kap, cur, rfl, q1, q2, q3, q4, q5, q6⟩
    · rw [h0] at hrun ⊢
      exact ⟨none, 0, W', hrun, Nat.le_refl _, hB', fun _ => rfl, fun h => absurd h (Nat.lt_irrefl _)⟩
    · refine ⟨some ⟨b, 0, none⟩, kap, W', hrun, q3, hB', (fun h => by cases h), fun _ => ⟨b, rfl, q1, cur, q2, fun j r hj i hi => ?_⟩⟩
      have hlt : j < l.length := (List.getElem?_eq_some_iff.1 hj).1
      rw [← flat5_get hj i hi, ← q6, List.getElem?_take, if_pos (by omega), Array.getElem?_toList]
/-- A record is stored at a place, cell by cell. -/
abbrev put5 (W : World) (g o : Nat) (r : Rc) : World :=
  ((((W.setCell ⟨g, o, none⟩ (.int .i64 r.producer)).setCell ⟨g, o + 1, none⟩ (.int .i64 r.seq)).setCell ⟨g, o + 2, none⟩ (.int .i64 r.part)).setCell ⟨g, o + 3, none⟩ (.string r.key)).setCell ⟨g, o + 4, none⟩ (.int .u32 (r.val : Nat))
theorem put5_grown (W : World) (g o : Nat) (r : Rc) : W.grownBy (put5 W g o r) (some g) := by
  have h : ∀ (W : World) (o : Nat) (v : Value), W.grownBy (W.setCell ⟨g, o, none⟩ v) (some g) := fun W o v => ⟨rfl, rfl, rfl, (KeepsWalks.setCell W _ v).size, fun k _ hk => Below.heap_setCell _ _ _ k (fun e => hk (by rw [e]))⟩
  have h1 := h W o (.int .i64 r.producer)
  have h2 := h (W.setCell ⟨g, o, none⟩ (.int .i64 r.producer)) (o + 1) (.int .i64 r.seq)
  have h3 := h ((W.setCell ⟨g, o, none⟩ (.int .i64 r.producer)).setCell ⟨g, o + 1, none⟩ (.int .i64 r.seq)) (o + 2) (.int .i64 r.part)
  have h4 := h (((W.setCell ⟨g, o, none⟩ (.int .i64 r.producer)).setCell ⟨g, o + 1, none⟩ (.int .i64 r.seq)).setCell ⟨g, o + 2, none⟩ (.int .i64 r.part)) (o + 3) (.string r.key)
  have h5 := h ((((W.setCell ⟨g, o, none⟩ (.int .i64 r.producer)).setCell ⟨g, o + 1, none⟩ (.int .i64 r.seq)).setCell ⟨g, o + 2, none⟩ (.int .i64 r.part)).setCell ⟨g, o + 3, none⟩ (.string r.key)) (o + 4) (.int .u32 (r.val : Nat))
  exact (((h1.trans h2).trans h3).trans h4).trans h5
theorem RowR.put {W : World} {g : Nat} {l : List Rc} (h : RowR W g l) {s : Nat} (hs : s < l.length) (r : Rc) : RowR (put5 W g (s * 5) r) g (l.set s r) := by
  obtain ⟨cur, h1, h2⟩ := h
  have h3 := heap_setCell_same _ g (s * 5) _ _ (.int .i64 r.producer) h1
  have h4 := heap_setCell_same _ g (s * 5 + 1) _ _ (.int .i64 r.seq) h3
  have h5 := heap_setCell_same _ g (s * 5 + 2) _ _ (.int .i64 r.part) h4
  have h6 := heap_setCell_same _ g (s * 5 + 3) _ _ (.string r.key) h5
  have h7 := heap_setCell_same _ g (s * 5 + 4) _ _ (.int .u32 (r.val : Nat)) h6
  have hsz : s * 5 + 4 < cur.size := by
    have := h2 s l[s] (List.getElem?_eq_getElem hs) 4 (by decide)
    simp only [cells5, List.getElem?_cons_zero, List.getElem?_cons_succ] at this
    exact (Array.getElem?_eq_some_iff.1 this).1
  refine ⟨_, h7, fun j x hx i hi => ?_⟩
  rw [List.getElem?_set] at hx
  by_cases hj : s = j
  · subst hj
    rw [if_pos rfl, if_pos hs] at hx
    obtain rfl := Option.some.inj hx
    rcases (by omega : i = 0 ∨ i = 1 ∨ i = 2 ∨ i = 3 ∨ i = 4) with rfl | rfl | rfl | rfl | rfl
    all_goals
      simp only [Array.getElem?_setIfInBounds, cells5, List.getElem?_cons_zero, List.getElem?_cons_succ, Array.size_setIfInBounds]
      simp
      try omega
  · rw [if_neg hj] at hx
    have hne : ∀ k, k < 5 → s * 5 + k ≠ j * 5 + i := fun k hk => by omega
    have n0 : s * 5 ≠ j * 5 + i := by have := hne 0 (by decide); omega
    have n1 := hne 1 (by decide)
    have n2 := hne 2 (by decide)
    have n3 := hne 3 (by decide)
    have n4 := hne 4 (by decide)
    rw [Array.getElem?_setIfInBounds_ne n4, Array.getElem?_setIfInBounds_ne n3, Array.getElem?_setIfInBounds_ne n2, Array.getElem?_setIfInBounds_ne n1, Array.getElem?_setIfInBounds_ne n0]
    exact h2 j x hx i hi

end Go.Proofs.Ytkmacmibcoobdaa.Model
