/-
  A list of items that grows: its own row, and its items' lists, all in blocks from lo up to hi.
-/
import Derived.Test.YtffehnojcajhiaaWireLit
namespace Go.Proofs.Ytffehnojcajhiaa.Wire
open Go Go.RowKit Go.Proofs.Ytffehnojcajhiaa.Law

def Grow (lo hi : Nat) (W : World) (v : Value) (l : List Item) : Prop :=
  hi ≤ W.heap.size ∧ (∀ b, v.ownBlock = some b → b < hi) ∧ ∃ val, OwnR W lo v l val ∧ ∀ j x, l[j]? = some x → Items (fun b => lo ≤ b ∧ b < hi ∧ v.ownBlock ≠ some b) W (val j) x.kids

theorem Grow.nil (W : World) (lo hi : Nat) (h : hi ≤ W.heap.size) : Grow lo hi W (.slice none 0 0) [] := ⟨h, fun b hb => (by cases hb), fun _ => .slice none 0 0, OwnR.nil W lo _, fun j x h => by simp at h⟩
theorem Grow.form {lo hi : Nat} {W : World} {v : Value} {l : List Item} (h : Grow lo hi W v l) : ∃ A cap, v = .slice A l.length cap ∧ l.length ≤ cap := by
  obtain ⟨_, _, val, h1, _⟩ := h; exact h1.form
theorem Grow.items {lo hi : Nat} {W : World} {v : Value} {l : List Item} (h : Grow lo hi W v l) : Items (fun b => lo ≤ b ∧ b < hi) W v l := by
  obtain ⟨_, h0, val, h1, h2⟩ := h
  exact h1.items (fun b hb => ⟨(h1.1.lt b hb).1, h0 b hb⟩) (fun j x hx => (h2 j x hx).mono (fun b hb => ⟨hb.1, hb.2.1⟩))
/-- What lies from lo up to hi stays. -/
theorem Grow.keep {lo hi hi' : Nat} {W W' : World} {v : Value} {l : List Item} (h : Grow lo hi W v l) (hb : ∀ b, lo ≤ b → b < hi → W'.heap[b]? = W.heap[b]?) (hh : hi ≤ hi') (hs : hi' ≤ W'.heap.size) : Grow lo hi' W' v l := by
  obtain ⟨h3, h0, val, h1, h2⟩ := h
  refine ⟨hs, fun b hb => Nat.lt_of_lt_of_le (h0 b hb) hh, val, ⟨⟨h1.1.1, ?_⟩, h1.2⟩, fun j x hx => (h2 j x hx).keep (fun b h => hb b h.1 h.2.1) (fun b h => ⟨h.1, Nat.lt_of_lt_of_le h.2.1 hh, h.2.2⟩)⟩
  rcases h1.1.2 with h4 | ⟨g, cap, cur, rfl, q1, q2, q3⟩
  · exact .inl h4
  · exact .inr ⟨g, cap, cur, rfl, q1, (hb g q1 (h0 g rfl)).trans q2, q3⟩
theorem Grow.below {lo : Nat} {W W' : World} {v : Value} {l : List Item} (h : Grow lo W.heap.size W v l) (hB : Below W.heap.size W W') : Grow lo W'.heap.size W' v l := h.keep (fun b _ hb => hB.block b hb) hB.size (Nat.le_refl _)

/-- An item is put behind: it lies as a literal in a new block, and its list in blocks that aren't the row's own. -/
theorem Grow.append {lo hi : Nat} {W : World} {v : Value} {l : List Item} (h : Grow lo hi W v l) (hlo : lo ≤ hi) (x : Item) (u : Value) (hu : Items (fun b => lo ≤ b ∧ b < W.heap.size ∧ v.ownBlock ≠ some b) W u x.kids) (ty : TypeId) (hroom : (l.length + 1) * 56 ≤ 140737488355328) :
    ∃ v' W', (Builtin.append_ #[51, 51] ty #[v, .slice (some ⟨W.heap.size, 0, none⟩) 1 1]).run Try.prog (W.alloc (.cells #[.int .i64 x.kind, .int .i64 x.n, .string x.s, u] 71)) = .ok v' W' ∧ Grow lo W'.heap.size W' v' (l ++ [x]) ∧ W.grownBy W' v.ownBlock ∧
      (v'.ownBlock = v.ownBlock ∨ v'.ownBlock = some (W.heap.size + 1)) := by
  obtain ⟨h3, h0, val, h1, h2⟩ := h
  have hown : OwnR (W.alloc (.cells #[.int .i64 x.kind, .int .i64 x.n, .string x.s, u] 71)) lo v l val := h1.below ((Below.refl _ _).alloc (Nat.le_refl _) _)
  have hlit : Items (fun b => b < W.heap.size + 1) (W.alloc (.cells #[.int .i64 x.kind, .int .i64 x.n, .string x.s, u] 71)) (.slice (some ⟨W.heap.size, 0, none⟩) 1 1) [x] :=
    lit_items W [x] (fun _ => u) _ 1 W.heap.size rfl rfl rfl (by omega) (fun j y hy => by
      match j, hy with
      | 0, hy =>
        simp at hy; subst hy
        exact hu.keep (fun b hb => Below.heap_alloc _ _ _ hb.2.1) (fun b hb => by omega))
  have hou : u.oneCell' = true := by obtain ⟨A, c, hue, _⟩ := hu.form; rw [hue]; rfl
  obtain ⟨v', W', hrun, O', G', hor⟩ := run_append_items (W.alloc (.cells #[.int .i64 x.kind, .int .i64 x.n, .string x.s, u] 71)) ty hown W.heap.size 0 1 (m := [x]) (u := fun _ => u)
    (fun j y hy => by
      match j, hy with
      | 0, hy => simp at hy; subst hy; exact ⟨cell_lit W _ _ _ _ rfl, cell_lit W _ _ _ _ rfl, cell_lit W _ _ _ _ rfl, cell_lit W _ _ _ _ rfl⟩)
    (fun _ _ => hou) hroom (by simp; omega)
  have hB : Below lo W W' := ((Below.refl _ _).alloc (by omega) _).grown G' (by simp; omega) (fun k hk => (hown.1.lt k hk).1)
  have hG : W.grownBy W' v.ownBlock := (World.grownBy_alloc W _ _).trans G'
  have hsz : W.heap.size + 1 ≤ W'.heap.size := by have := G'.size; simpa using this
  refine ⟨v', W', hrun, ⟨Nat.le_refl _, fun b hb => (O'.1.lt b hb).2, _, O', fun j y hy => ?_⟩, hG, by simpa using hor⟩
  have hsep : ∀ b, b < W.heap.size → v.ownBlock ≠ some b → v'.ownBlock ≠ some b := by
    intro b hb hne e
    rcases hor with h4 | h4
    · exact hne (by rw [← h4]; exact e)
    · rw [h4, World.size_alloc] at e; simp only [Option.some.injEq] at e; omega
  by_cases hj : j < l.length
  · rw [List.getElem?_append_left hj] at hy
    rw [if_pos hj]
    exact (h2 j y hy).keep (fun b hb => hG.block b (by omega) (fun e => hb.2.2 e.symm)) (fun b hb => ⟨hb.1, by omega, hsep b (by omega) hb.2.2⟩)
  · rw [List.getElem?_append_right (by omega)] at hy
    rw [if_neg hj]
    have : y = x := by
      match hq : j - l.length, hy with
      | 0, hy => simpa using hy.symm
    subst this
    exact hu.keep (fun b hb => hG.block b hb.2.1 (fun e => hb.2.2 e.symm)) (fun b hb => ⟨hb.1, by omega, hsep b hb.2.1 hb.2.2⟩)

end Go.Proofs.Ytffehnojcajhiaa.Wire
