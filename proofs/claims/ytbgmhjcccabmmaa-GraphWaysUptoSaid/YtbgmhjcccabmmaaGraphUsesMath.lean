/-
  Who uses an operator: plain lists.
-/
import Derived.Test.YtbgmhjcccabmmaaGraphMath
namespace Go.Proofs.Ytbgmhjcccabmmaa.Graph

/-- Among the first k inputs. -/
def uIn (ins : List Int) (i : Nat) (fr : Int) : Nat → List (Nat × Nat)
  | 0 => []
  | k + 1 => uIn ins i fr k ++ (if ins[k]? = some fr then [(i, k)] else [])
def uOp (l : List Opr) (fr : Int) (i : Nat) : List (Nat × Nat) := match l[i]? with | some x => uIn x.ins i fr x.ins.length | none => []
/-- Among the first i operators. -/
def uAll (l : List Opr) (fr : Int) : Nat → List (Nat × Nat)
  | 0 => []
  | i + 1 => uAll l fr i ++ uOp l fr i
def usesL (l : List Opr) (fr : Int) : List (Nat × Nat) := uAll l fr l.length
/-- All inputs together. -/
def insN (l : List Opr) : Nat := (l.map fun x => x.ins.length).sum

theorem uIn_le (ins : List Int) (i : Nat) (fr : Int) : ∀ k, (uIn ins i fr k).length ≤ k
  | 0 => Nat.le_refl _
  | k + 1 => by
    have := uIn_le ins i fr k
    rw [uIn, List.length_append]
    split <;> simp <;> omega
theorem uAll_le (l : List Opr) (fr : Int) : ∀ k, k ≤ l.length → (uAll l fr k).length ≤ insN (l.take k)
  | 0, _ => Nat.zero_le _
  | k + 1, hk => by
    have h := uAll_le l fr k (by omega)
    have hx : l[k]? = some l[k] := List.getElem?_eq_getElem (by omega)
    have h2 := uIn_le l[k].ins k fr l[k].ins.length
    rw [uAll, List.length_append, uOp, hx, take_snoc hx]
    simp only [insN, List.map_append, List.sum_append, List.map_cons, List.map_nil, List.sum_cons, List.sum_nil] at h ⊢
    omega
theorem insN_take (l : List Opr) (k : Nat) : insN (l.take k) ≤ insN l := by
  conv => rhs; rw [← List.take_append_drop k l]
  simp only [insN, List.map_append, List.sum_append]
  omega
theorem insN_le {l : List Opr} {k : Nat} {x : Opr} (hx : l[k]? = some x) : insN (l.take k) + x.ins.length ≤ insN l := by
  have := insN_take l (k + 1)
  rw [take_snoc hx] at this
  simp only [insN, List.map_append, List.sum_append, List.map_cons, List.map_nil, List.sum_cons, List.sum_nil] at this ⊢
  omega

theorem uIn_mem {ins : List Int} {i : Nat} {fr : Int} {p : Nat × Nat} : ∀ {k : Nat}, p ∈ uIn ins i fr k ↔ p.1 = i ∧ p.2 < k ∧ ins[p.2]? = some fr
  | 0 => by simp [uIn]
  | k + 1 => by
    rw [uIn, List.mem_append, uIn_mem]
    obtain ⟨a, b⟩ := p
    simp only
    split
    · rename_i h
      simp only [List.mem_singleton, Prod.mk.injEq]
      constructor
      · rintro (⟨h1, h2, h3⟩ | ⟨rfl, rfl⟩)
        · exact ⟨h1, by omega, h3⟩
        · exact ⟨rfl, by omega, h⟩
      · rintro ⟨h1, h2, h3⟩
        by_cases hb : b = k
        · exact .inr ⟨h1, hb⟩
        · exact .inl ⟨h1, by omega, h3⟩
    · rename_i h
      simp only [List.not_mem_nil, or_false]
      constructor
      · rintro ⟨h1, h2, h3⟩
        exact ⟨h1, by omega, h3⟩
      · rintro ⟨h1, h2, h3⟩
        refine ⟨h1, ?_, h3⟩
        by_cases hb : b = k
        · subst hb; exact absurd h3 h
        · omega
theorem uOp_mem {l : List Opr} {i : Nat} {fr : Int} {p : Nat × Nat} : p ∈ uOp l fr i ↔ p.1 = i ∧ ∃ x, l[p.1]? = some x ∧ x.ins[p.2]? = some fr := by
  unfold uOp
  constructor
  · intro h
    split at h
    · rename_i x hx
      obtain ⟨h1, h2, h3⟩ := uIn_mem.1 h
      exact ⟨h1, x, by rw [h1]; exact hx, h3⟩
    · cases h
  · rintro ⟨h1, x, hx, h3⟩
    rw [h1] at hx
    rw [hx]
    exact uIn_mem.2 ⟨h1, (List.getElem?_eq_some_iff.1 h3).1, h3⟩
theorem uAll_mem {l : List Opr} {fr : Int} {p : Nat × Nat} : ∀ {i : Nat}, p ∈ uAll l fr i ↔ p.1 < i ∧ ∃ x, l[p.1]? = some x ∧ x.ins[p.2]? = some fr
  | 0 => by simp [uAll]
  | i + 1 => by
    rw [uAll, List.mem_append, uAll_mem, uOp_mem]
    constructor
    · rintro (⟨h1, h2⟩ | ⟨h1, h2⟩)
      · exact ⟨by omega, h2⟩
      · exact ⟨by omega, h2⟩
    · rintro ⟨h1, h2⟩
      by_cases h : p.1 = i
      · exact .inr ⟨h, h2⟩
      · exact .inl ⟨by omega, h2⟩
theorem usesL_mem {l : List Opr} {fr : Int} {p : Nat × Nat} : p ∈ usesL l fr ↔ ∃ x, l[p.1]? = some x ∧ x.ins[p.2]? = some fr := by
  rw [usesL, uAll_mem]
  constructor
  · exact fun h => h.2
  · rintro ⟨x, hx, h⟩
    exact ⟨(List.getElem?_eq_some_iff.1 hx).1, x, hx, h⟩
theorem usesL_le (l : List Opr) (fr : Int) : (usesL l fr).length ≤ insN l := by
  have := uAll_le l fr l.length (Nat.le_refl _)
  rw [List.take_length] at this
  exact this

end Go.Proofs.Ytbgmhjcccabmmaa.Graph
