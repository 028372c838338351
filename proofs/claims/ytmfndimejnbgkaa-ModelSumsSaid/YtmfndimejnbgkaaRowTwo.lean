/-
  A row of the call's own whose elements are two cells (a struct of two plain fields): f and g give an element's cells. Of whatever program.
-/
import Derived.Test.YtmfndimejnbgkaaOps
import Derived.Laws.Rows
import Derived.Maps.AppendAt
namespace Go.Proofs.Ytmfndimejnbgkaa.Law
open Go Go.RowKit

section
variable {α : Type} (f g : α → Value)
/-- Two cells an element. -/
def flat2 : List α → List Value
  | [] => []
  | x :: r => f x :: g x :: flat2 r
end
section
variable {α : Type} {f g : α → Value}
theorem flat2_append : ∀ a b : List α, flat2 f g (a ++ b) = flat2 f g a ++ flat2 f g b
  | [], _ => rfl
  | x :: a, b => by rw [List.cons_append, flat2, flat2, flat2_append a b]; rfl
theorem flat2_length : ∀ l : List α, (flat2 f g l).length = l.length * 2
  | [] => rfl
  | x :: r => by rw [flat2, List.length_cons, List.length_cons, flat2_length r, List.length_cons]; omega
theorem flat2_get : ∀ {l : List α} {j : Nat} {x : α}, l[j]? = some x → (flat2 f g l)[j * 2]? = some (f x) ∧ (flat2 f g l)[j * 2 + 1]? = some (g x)
  | [], j, x, h => by simp at h
  | y :: r, 0, x, h => by
    obtain rfl : y = x := by simpa using h
    exact ⟨rfl, rfl⟩
  | y :: r, j + 1, x, h => by
    have := flat2_get (l := r) (j := j) (x := x) (by simpa using h)
    have e : (j + 1) * 2 = j * 2 + 2 := by omega
    rw [e]
    exact this
theorem flat2_one (hf : ∀ x, (f x).oneCell' = true) (hg : ∀ x, (g x).oneCell' = true) : ∀ (l : List α), ∀ u ∈ flat2 f g l, u.oneCell' = true
  | [], u, h => by cases h
  | x :: r, u, h => by
    rw [flat2] at h
    rcases List.mem_cons.1 h with rfl | h
    · exact hf x
    · rcases List.mem_cons.1 h with rfl | h
      · exact hg x
      · exact flat2_one hf hg r u h

/-- A row of the call's own. -/
def OwnTwo (f g : α → Value) (e : TypeId) (W : World) (base : Nat) (v : Value) (l : List α) : Prop := W.ownsRow base e 2 v l.length (flat2 f g l)
theorem OwnTwo.nil (e : TypeId) (W : World) (base : Nat) : OwnTwo f g e W base (.slice none 0 0) [] := World.ownsRow_nil W base e 2
theorem OwnTwo.form {e : TypeId} {W : World} {base : Nat} {v : Value} {l : List α} (h : OwnTwo f g e W base v l) : ∃ A cap, v = .slice A l.length cap ∧ l.length ≤ cap := by
  rcases h.2 with ⟨rfl, hz⟩ | ⟨b, cap, cur, rfl, _, _, hn, _⟩
  · exact ⟨none, 0, by rw [hz], by omega⟩
  · exact ⟨_, cap, rfl, hn⟩
theorem OwnTwo.own {e : TypeId} {W : World} {base : Nat} {v : Value} {l : List α} (h : OwnTwo f g e W base v l) {b : Nat} (hg : v.ownBlock = some b) : base ≤ b ∧ b < W.heap.size := h.lt b hg
theorem OwnTwo.keep {e : TypeId} {W W' : World} {base : Nat} {v : Value} {l : List α} (h : OwnTwo f g e W base v l) (hb : ∀ b, v.ownBlock = some b → W'.heap[b]? = W.heap[b]?) : OwnTwo f g e W' base v l := by
  refine ⟨h.1, ?_⟩
  rcases h.2 with h0 | ⟨b, cap, cur, rfl, h1, h2, h3⟩
  · exact .inl h0
  · exact .inr ⟨b, cap, cur, rfl, h1, (hb b rfl).trans h2, h3⟩
theorem OwnTwo.below {e : TypeId} {W W' : World} {base : Nat} {v : Value} {l : List α} (h : OwnTwo f g e W base v l) (hB : Below W.heap.size W W') : OwnTwo f g e W' base v l := h.keep fun _ hg => hB.block _ (h.own hg).2
/-- The cells of the j-th. -/
theorem OwnTwo.cell {e : TypeId} {W : World} {base n cap : Nat} {A : Option Addr} {l : List α} (h : OwnTwo f g e W base (.slice A n cap) l) {j : Nat} {x : α} (hx : l[j]? = some x) :
    ∃ b, A = some ⟨b, 0, none⟩ ∧ n ≤ cap ∧ base ≤ b ∧ b < W.heap.size ∧ W.cell? ⟨b, j * 2, none⟩ = some (f x) ∧ W.cell? ⟨b, j * 2 + 1, none⟩ = some (g x) := by
  have hlt := fun (b : Nat) (hg : (Value.slice A n cap).ownBlock = some b) => h.own hg
  have hcell := fun (b : Nat) (hg : (Value.slice A n cap).ownBlock = some b) => World.ownsRow.cells h hg
  rcases h.2 with ⟨_, hz⟩ | ⟨b, cap', cur, hv, _, _, hn, _⟩
  · have := (List.getElem?_eq_some_iff.1 hx).1
    omega
  · simp only [Value.slice.injEq] at hv
    obtain ⟨rfl, rfl, rfl⟩ := hv
    have h1 := hcell b rfl (j * 2) (f x) (flat2_get hx).1
    have h2 := hcell b rfl (j * 2 + 1) (g x) (flat2_get hx).2
    rw [Addr.add_lit, Nat.zero_add] at h1 h2
    exact ⟨b, rfl, hn, (hlt b rfl).1, (hlt b rfl).2, h1, h2⟩
/-- One more behind: it lies as a literal in a new block. -/
theorem OwnTwo.append {P : Program} (w : World) {t e : TypeId} (ty : TypeId) {i : TypeInfo} {z : Value} {by_ : Nat} (hf : ∀ x, (f x).oneCell' = true) (hg : ∀ x, (g x).oneCell' = true) (ht : P.underlying t = some (.slice e)) (hi : P.info? e = some i) (hz : i.zero = some z)
    (hsize : i.size = 2) (hby : i.bytes = by_) (hzs : z.cells.size = 2) {base : Nat} {v : Value} {l : List α} (h : OwnTwo f g e w base v l) (hbase : base ≤ w.heap.size) (x : α) (hm : l.length + 1 ≤ maxLen) (hroom : (l.length + 1) * by_ ≤ 140737488355328) :
    ∃ v' W', (Builtin.append_ #[t, t] ty #[v, .slice (some ⟨w.heap.size, 0, none⟩) 1 1]).run P (w.alloc (.cells #[f x, g x] e)) = .ok v' W' ∧ OwnTwo f g e W' base v' (l ++ [x]) ∧ w.grownBy W' v.ownBlock ∧ (v'.ownBlock = v.ownBlock ∨ v'.ownBlock = some (w.heap.size + 1)) := by
  have h1 : (w.alloc (.cells #[f x, g x] e)).ownsRow base e 2 v l.length (flat2 f g l) := h.below ((Below.refl _ _).alloc (Nat.le_refl _) _)
  have hnew := heap_alloc_new w (.cells #[f x, g x] e)
  have hnews : ∀ (j : Nat) (u : Value), (flat2 f g [x])[j]? = some u → (w.alloc (.cells #[f x, g x] e)).cell? ((⟨w.heap.size, 0, none⟩ : Addr).add j) = some u := by
    intro j u hu
    rw [Addr.add_lit, Nat.zero_add]
    have e1 : flat2 f g [x] = [f x, g x] := rfl
    rw [e1] at hu
    simp only [World.cell?, hnew, Option.isSome_none, Bool.false_eq_true, if_false]
    rw [← Array.getElem?_toList]
    exact hu
  obtain ⟨v', W', hrun, h2, h3, _, h5⟩ := run_append_own_at (P := P) (w.alloc (.cells #[f x, g x] e)) base t ty e i z 2 by_ ht hi hz hsize hby hzs (by decide) v l.length (flat2 f g l) h1 ⟨w.heap.size, 0, none⟩ 1 1 (flat2 f g [x]) (flat2_length _) hnews (flat2_one hf hg [x]) hm hroom (by simp; omega)
  refine ⟨v', W', hrun, ?_, (World.grownBy_alloc w _ _).trans h3, by simpa using h5⟩
  unfold OwnTwo
  rw [List.length_append, flat2_append]
  exact h2
end
end Go.Proofs.Ytmfndimejnbgkaa.Law
