/-
  Put together out of texts of one chain: what they hold stands ahead of each.
-/
import Derived.Test.YtnhkpemajknfnaaGreatDoorGSeglogHeads16
/-
  Plain facts: what is left of a log whose first segments go.
-/
namespace Go.Proofs.YtnhkpemajknfnaaGreatDoor.Seglog
open Go Go.RowKit Go.Lib Go.Proofs.YtnhkpemajknfnaaGreatDoor.Law Go.Proofs.YtnhkpemajknfnaaGreatDoor.Disk

def flatB (l : List SV) : List (List Nat) := (l.map fun q => q.1.es.map En.bs).flatten
theorem flatB_cons (s : SV) (l : List SV) : flatB (s :: l) = s.1.es.map En.bs ++ flatB l := by simp [flatB]
theorem flatB_append (a b : List SV) : flatB (a ++ b) = flatB a ++ flatB b := by simp [flatB]
theorem first_drop : ∀ (l : List SV) (G : Nat), goesOn (l.map (·.1)) → G < l.length → firstL (l.map (·.1)) + (flatB (l.take G)).length = firstL ((l.drop G).map (·.1))
  | s :: r, 0, _, _ => by simp [flatB]
  | [s], G + 1, _, hG => by simp at hG
  | s :: t :: r, G + 1, h, hG => by
    have h1 := first_drop (t :: r) G h.2.2 (by simpa using hG)
    have h2 : t.1.base = s.1.base + s.1.es.length := h.1
    rw [List.take_succ_cons, List.drop_succ_cons, flatB_cons, List.length_append, List.length_map, ← h1]
    simp only [firstL, List.map_cons, List.head?_cons, Option.map_some, Option.getD_some]
    omega
theorem first_le (a : Nat) : ∀ (l : List SV) (G : Nat), goesOn (l.map (·.1)) → G < l.length → firstL (l.map (·.1)) ≤ a → (∀ q ∈ l.take G, q.1.next ≤ a) → firstL ((l.drop G).map (·.1)) ≤ a
  | s :: r, 0, _, _, h, _ => h
  | [s], G + 1, _, hG, _, _ => by simp at hG
  | s :: t :: r, G + 1, h, hG, h1, h2 => by
    rw [List.drop_succ_cons]
    refine first_le a (t :: r) G h.2.2 (by simpa using hG) ?_ (fun q hq => h2 q (by rw [List.take_succ_cons]; exact List.mem_cons_of_mem _ hq))
    have h3 : t.1.base = s.1.next := h.1
    have h4 := h2 s (by simp)
    simp only [firstL, List.map_cons, List.head?_cons, Option.map_some, Option.getD_some]
    omega
theorem goes_drop : ∀ (l : List SV) (G : Nat), goesOn (l.map (·.1)) → goesOn ((l.drop G).map (·.1))
  | l, 0, h => h
  | [], G + 1, _ => by simp [goesOn]
  | s :: r, G + 1, h => by
    rw [List.drop_succ_cons]
    exact goes_drop r G (goesOn_tail h)

/-- What is left of a log that told K. -/
structure Left (D : DS) (p : ByteArray) (l : List SV) (K : List (List Nat)) (M : Nat) : Prop where
  fails : D.fails = false
  made : D.made ≤ M
  goes : goesOn (l.map (·.1))
  full : ∀ q ∈ l, q.1.es ≠ []
  file : ∀ q ∈ l, There D (fileN p q.1.base)
  keep : flatB l = K.drop (firstL (l.map (·.1)))
  next : nextL (l.map (·.1)) = K.length
  le : ∀ q ∈ l, q.1.next ≤ K.length
  len : l.length ≤ K.length
  ne : l ≠ []

theorem Fine.left {D : DS} {p : ByteArray} {l : List SV} {K : List (List Nat)} {R U M : Nat} (h : Fine D p l K R U M) (hK : K ≠ []) : Left D p l K M := by
  refine ⟨h.fails, h.made, h.goes, h.full, fun q hq => (h.file q hq).1, ?_, h.next, h.le, h.len, ?_⟩
  · rw [h.first]; exact h.keep
  · rintro rfl
    exact hK h.keep.symm
theorem there_all {D : DS} {p : ByteArray} {l : List SV} (hf : D.fails = false) (h : ∀ q ∈ l, There D (fileN p q.1.base)) : allN D (filesL p l) = 0 ∧ (allD D (filesL p l)).fails = false ∧ (∀ q ∈ l, There (allD D (filesL p l)) (fileN p q.1.base)) ∧ (allD D (filesL p l)).made = D.made := by
  obtain ⟨h1, h2, h3, h4⟩ := all_there (filesL p l) D hf (fun s hs => by
    obtain ⟨q, hq, rfl⟩ := List.mem_map.1 hs
    exact h q hq)
  exact ⟨h1, h2, fun q hq => ⟨by rw [h3]; exact (h q hq).now, by rw [h4]; exact (h q hq).nm, (h q hq).right⟩, all_made _ _⟩
theorem Left.synced {D : DS} {p : ByteArray} {l : List SV} {K : List (List Nat)} {M : Nat} (h : Left D p l K M) : allN D (filesL p l) = 0 ∧ Left (allD D (filesL p l)) p l K M := by
  obtain ⟨h1, h2, h3, h4⟩ := there_all h.fails h.file
  exact ⟨h1, h2, by rw [h4]; exact h.made, h.goes, h.full, h3, h.keep, h.next, h.le, h.len, h.ne⟩
theorem Left.cut {D : DS} {p : ByteArray} {l : List SV} {K : List (List Nat)} {M : Nat} (h : Left D p l K M) (a : Nat) (h1 : firstL (l.map (·.1)) ≤ a) :
    ∃ G DF, headGo p a (allD D (filesL p l)) l = (DF, 0, G) ∧ allN D (filesL p l) = 0 ∧ Left DF p (l.drop G) K (M + K.length) ∧ firstL ((l.drop G).map (·.1)) ≤ a := by
  obtain ⟨h0, hs⟩ := h.synced
  obtain ⟨G, e1, e2, e3, e4, e5, e6⟩ := head_there p a l _ hs.fails h.goes hs.file
  have hG : G < l.length := e2.resolve_right h.ne
  refine ⟨G, _, by rw [← e1], h0, ⟨e3, ?_, goes_drop l G h.goes, fun q hq => h.full q (List.mem_of_mem_drop hq), e4, ?_, ?_, fun q hq => h.le q (List.mem_of_mem_drop hq), ?_, ?_⟩, first_le a l G h.goes hG h1 e6⟩
  · have := hs.made
    have := h.len
    omega
  · have h2 := h.keep
    have h3 := first_drop l G h.goes hG
    have h4 : flatB l = flatB (l.take G) ++ flatB (l.drop G) := by rw [← flatB_append, List.take_append_drop]
    rw [h4] at h2
    rw [← h3, ← List.drop_drop, ← h2, List.drop_left]
  · have h2 := h.next
    unfold nextL at h2 ⊢
    rw [List.map_drop, List.getLast?_drop, if_neg (by rw [List.length_map]; omega)]
    exact h2
  · rw [List.length_drop]; have := h.len; omega
  · intro e
    have := congrArg List.length e
    rw [List.length_drop] at this
    simp at this
    omega
theorem Left.at {D : DS} {p : ByteArray} {l : List SV} {K : List (List Nat)} {M : Nat} (h : Left D p l K M) (k : Nat) (h1 : firstL (l.map (·.1)) ≤ k) (h2 : k < K.length) :
    ∃ i x j y, cntL l (k + 1) = i + 1 ∧ l[i]? = some x ∧ k = x.1.base + j ∧ x.1.es[j]? = some y ∧ K[k]? = some y.bs := by
  obtain ⟨i, x, e1, e2, e3, e4⟩ := find_of l k h.goes h1 (by rw [h.next]; exact h2)
  obtain ⟨hil, hx⟩ := List.getElem?_eq_some_iff.1 e2
  have hj : k - x.1.base < x.1.es.length := by unfold Sg.next at e4; omega
  refine ⟨i, x, k - x.1.base, x.1.es[k - x.1.base], e1, e2, by omega, List.getElem?_eq_getElem hj, ?_⟩
  have h3 := first_drop l i h.goes hil
  have hd : l.drop i = x :: l.drop (i + 1) := by rw [List.drop_eq_getElem_cons hil, hx]
  have h4 : flatB l = flatB (l.take i) ++ (x.1.es.map En.bs ++ flatB (l.drop (i + 1))) := by rw [← flatB_cons, ← hd, ← flatB_append, List.take_append_drop]
  have h5 : firstL ((l.drop i).map (·.1)) = x.1.base := by rw [hd]; rfl
  rw [h5] at h3
  have h6 : K[k]? = (flatB l)[k - firstL (l.map (·.1))]? := by
    rw [h.keep, List.getElem?_drop]
    congr 1
    omega
  rw [h6, h4, List.getElem?_append_right (by omega), List.getElem?_append_left (by rw [List.length_map]; omega), List.getElem?_map, show k - firstL (l.map (·.1)) - (flatB (l.take i)).length = k - x.1.base by omega, List.getElem?_eq_getElem hj]
  rfl

end Go.Proofs.YtnhkpemajknfnaaGreatDoor.Seglog
