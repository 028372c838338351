/-
  What leads where: plain facts.
-/
import Derived.Test.YtbgmhjcccabmmaaGraphUsesMath
namespace Go.Proofs.Ytbgmhjcccabmmaa.Graph

/-- A way leads from a to b. -/
inductive Rch (l : List Opr) : Nat → Nat → Prop
  | refl (a : Nat) : Rch l a a
  | step {a c b : Nat} {x : Opr} {k : Nat} : Rch l a c → l[b]? = some x → x.ins[k]? = some (c : Int) → Rch l a b

theorem Rch.trans {l : List Opr} {a b c : Nat} (h : Rch l a b) (k : Rch l b c) : Rch l a c := by
  induction k with
  | refl => exact h
  | step _ hx hk ih => exact .step ih hx hk
theorem Rch.le {l : List Opr} (hg : goodG l) {a b : Nat} (h : Rch l a b) : a ≤ b := by
  induction h with
  | refl => exact Nat.le_refl _
  | step _ hx hk ih =>
    have := (hg.ins hx).2 _ (List.mem_of_getElem? hk)
    omega
theorem Rch.tail {l : List Opr} {a b : Nat} : Rch l a b ↔ a = b ∨ ∃ (x : Opr) (k c : Nat), l[b]? = some x ∧ x.ins[k]? = some (c : Int) ∧ Rch l a c := by
  constructor
  · intro h
    cases h with
    | refl => exact .inl rfl
    | step h hx hk => exact .inr ⟨_, _, _, hx, hk, h⟩
  · rintro (rfl | ⟨x, k, c, hx, hk, h⟩)
    · exact .refl _
    · exact .step h hx hk
theorem Rch.head {l : List Opr} {a b : Nat} : Rch l a b ↔ a = b ∨ ∃ p ∈ usesL l (a : Int), Rch l p.1 b := by
  constructor
  · intro h
    induction h with
    | refl => exact .inl rfl
    | @step c b x k h hx hk ih =>
      rcases ih with rfl | ⟨p, hp, h2⟩
      · exact .inr ⟨(b, k), usesL_mem.2 ⟨x, hx, hk⟩, .refl _⟩
      · exact .inr ⟨p, hp, .step h2 hx hk⟩
  · rintro (rfl | ⟨p, hp, h⟩)
    · exact .refl _
    · obtain ⟨x, hx, hk⟩ := usesL_mem.1 hp
      exact (Rch.step (.refl a) hx hk).trans h
noncomputable def rB (l : List Opr) (a b : Nat) : Bool := bP (Rch l a b)
theorem rB_head (l : List Opr) (a b : Nat) : rB l a b = (decide (a = b) || (usesL l (a : Int)).any fun p => rB l p.1 b) := by
  rw [Bool.eq_iff_iff, rB, bP_iff, Rch.head, Bool.or_eq_true, decide_eq_true_iff, List.any_eq_true]
  simp only [rB, bP_iff]
theorem rB_self (l : List Opr) (a : Nat) : rB l a a = true := bP_true (.refl a)
theorem rB_back {l : List Opr} (hg : goodG l) {a b : Nat} (h : b < a) : rB l a b = false := bP_false fun h' => by have := h'.le hg; omega

/-- Uses of right graphs lead on. -/
theorem uses_fwd {l : List Opr} (hg : goodG l) {a : Nat} {p : Nat × Nat} (hp : p ∈ usesL l (a : Int)) : a < p.1 ∧ p.1 < l.length := by
  obtain ⟨x, hx, hk⟩ := usesL_mem.1 hp
  have := (hg.ins hx).2 _ (List.mem_of_getElem? hk)
  exact ⟨by omega, (List.getElem?_eq_some_iff.1 hx).1⟩
theorem insN_good {l : List Opr} (hg : goodG l) : insN l ≤ 32 := by
  have h : ∀ m : List Opr, (∀ x ∈ m, x.ins.length ≤ 2) → insN m ≤ m.length * 2 := by
    intro m
    induction m with
    | nil => intro _; exact Nat.le_refl _
    | cons x r ih =>
      intro h
      have h1 := h x List.mem_cons_self
      have h2 := ih fun y hy => h y (List.mem_cons_of_mem _ hy)
      simp only [insN, List.map_cons, List.sum_cons, List.length_cons] at h2 ⊢
      omega
  have := h l fun x hx => by
    obtain ⟨i, hi⟩ := List.getElem?_of_mem hx
    exact (hg.ins hi).1
  have := hg.2.1
  omega

end Go.Proofs.Ytbgmhjcccabmmaa.Graph
