/-
  Pieces of a slice of two cells an element that reads as a list. Of whatever program.
-/
import Derived.Test.YtkofipbkfniplaaCutRow
import Derived.Test.YtkofipbkfniplaaTwoAt
namespace Go.Proofs.Ytkofipbkfniplaa.Law
open Go Go.RowKit

theorem size_two {P : Program} {t : TypeId} {i : TypeInfo} (hi : P.info? (P.elem t) = some i) (h1 : i.size = 2) (w : World) : (sizeOf (P.elem t)).run P w = .ok 2 w := by
  simp [sizeOf, typeInfo, hi, h1]
section
variable {α : Type} {f g : α → Value} {P : Program} {t : TypeId}
theorem TwoAt.empty (S : Nat → Prop) (W : World) (A : Option Addr) (cap : Nat) (h : A = none → cap = 0) : TwoAt f g S W (.slice A 0 cap) [] := ⟨A, cap, rfl, Nat.zero_le _, h, fun hp => absurd hp (Nat.lt_irrefl _)⟩
theorem TwoAt.back {S : Nat → Prop} {W : World} {b off len cap : Nat} {l : List α} (h : TwoAt f g S W (.slice (some ⟨b, off, none⟩) len cap) l) (k c : Nat) (hk : k < len) (hc : len - k ≤ c) : TwoAt f g S W (.slice (some ⟨b, off + k * 2, none⟩) (len - k) c) (l.drop k) := by
  obtain ⟨A', cap', e, h1, h2, h4⟩ := h
  simp only [Value.slice.injEq] at e
  obtain ⟨rfl, rfl, rfl⟩ := e
  have hl : (l.drop k).length = l.length - k := List.length_drop
  refine ⟨_, c, by rw [hl], by omega, (fun h => by cases h), fun hp => ?_⟩
  obtain ⟨b', off', e1, h5, h6⟩ := h4 (by omega)
  simp only [Option.some.injEq, Addr.mk.injEq, and_true] at e1
  obtain ⟨rfl, rfl⟩ := e1
  refine ⟨b, off + k * 2, rfl, h5, fun j x hx => ?_⟩
  rw [List.getElem?_drop] at hx
  have := h6 (k + j) x hx
  have e2 : off + (k + j) * 2 = off + k * 2 + j * 2 := by omega
  rw [e2] at this
  exact this
/-- What is left behind k elements. -/
theorem run_behind_two (ht : P.underlying t = some (.slice (P.elem t))) (h1 : ∀ w, (sizeOf (P.elem t)).run P w = .ok 2 w) {S : Nat → Prop} {W : World} {A : Option Addr} {len cap k : Nat} {l : List α} (h : TwoAt f g S W (.slice A len cap) l) (kd : IntKind) (hk : k ≤ len) :
    ∃ v, (∀ w, (Instr.sliceAt t (.slice A len cap) (some (.int kd (k : Nat))) none none).run P w = .ok v w) ∧ TwoAt f g S W v (l.drop k) := by
  refine ⟨sliced A k len cap 2, fun w => ?_, ?_⟩
  · obtain ⟨A', c', e, hcap, hA, _⟩ := id h
    simp only [Value.slice.injEq] at e
    obtain ⟨rfl, rfl, rfl⟩ := e
    rw [run_sliceAt_slice (P := P) (w := w) _ _ _ _ _ ht, run_slice_l (P := P) (w := w) t A l.length cap ht kd (k : Nat) (by omega) (by omega), h1, Result.andThen_ok]
    simp
  · obtain ⟨A', c', e, hcap, hA, _⟩ := id h
    simp only [Value.slice.injEq] at e
    obtain ⟨rfl, rfl, rfl⟩ := e
    unfold sliced
    by_cases hck : cap = k
    · rw [if_pos hck, List.drop_eq_nil_of_le (by omega), show l.length - k = 0 by omega]
      exact TwoAt.empty _ _ _ _ (fun _ => by omega)
    · rw [if_neg hck]
      rcases Nat.lt_or_ge k l.length with hlt | hge
      · obtain ⟨b, off, rfl, _⟩ := h.at (by omega)
        have := h.back k (cap - k) hlt (by omega)
        simpa [Addr.add_lit] using this
      · rw [List.drop_eq_nil_of_le hge, show l.length - k = 0 by omega]
        refine TwoAt.empty _ _ _ _ (fun hn => ?_)
        cases A with
        | none => have := hA rfl; omega
        | some a => simp at hn
/-- The first k elements. -/
theorem run_ahead_two (ht : P.underlying t = some (.slice (P.elem t))) (h1 : ∀ w, (sizeOf (P.elem t)).run P w = .ok 2 w) {S : Nat → Prop} {W : World} {A : Option Addr} {len cap k : Nat} {l : List α} (h : TwoAt f g S W (.slice A len cap) l) (kd : IntKind) (hk : k ≤ len) :
    ∃ v, (∀ w, (Instr.sliceAt t (.slice A len cap) none (some (.int kd (k : Nat))) none).run P w = .ok v w) ∧ TwoAt f g S W v (l.take k) := by
  obtain ⟨A', c', e, hcap, hA, _⟩ := id h
  simp only [Value.slice.injEq] at e
  obtain ⟨rfl, rfl, rfl⟩ := e
  refine ⟨.slice A k cap, fun w => ?_, h.front k cap hk (by omega) hA⟩
  rw [run_sliceAt_slice (P := P) (w := w) _ _ _ _ _ ht, run_slice_h (P := P) (w := w) t A l.length cap ht kd (k : Nat) (by omega) (by omega), h1, Result.andThen_ok]
  unfold sliced
  cases A with
  | none => simp
  | some a => simp [Addr.add]
end

end Go.Proofs.Ytkofipbkfniplaa.Law
