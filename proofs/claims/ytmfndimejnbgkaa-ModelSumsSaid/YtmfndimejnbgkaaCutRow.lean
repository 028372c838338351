/-
  Pieces of a slice that reads as a list: what is left behind k elements, the first k elements; a slice expression whose run is known, as a step of the walk. Of whatever program.
-/
import Derived.Test.YtmfndimejnbgkaaRowOf
import Derived.Laws.Slices
namespace Go.Proofs.Ytmfndimejnbgkaa.Law
open Go Go.RowKit

theorem wpList_cut_ran {P : Program} {ops : Array Oper} {rest : List Oper} {o : Oper} {a : Act} {w : World} {Q : Exit → Act → World → Prop} (hgd : Region.wanted o (yielded ops a.tmps) = true) {t : TypeId} {x : Operand} {lo hi mx : Option Operand}
    (ho : o.op = .slice t x lo hi mx) {xv : Value} {lov hiv mxv : Option Value} {v' : Value} (hx : a.eval x = xv) (hlo : lo.map a.eval = lov) (hhi : hi.map a.eval = hiv) (hmx : mx.map a.eval = mxv)
    (hrun : (Instr.sliceAt t xv lov hiv mxv).run P w = .ok v' w) (h : wpList P ops Q rest (a.put o.dst v') w) : wpList P ops Q (o :: rest) a w := by
  refine wpList_step fun K hK => ?_
  rw [if_pos hgd]
  unfold Oper.wp execOp
  simp only [ho, hx, hlo, hhi, hmx, Sem.run_bind, Sem.run_pure, hrun, Result.andThen_ok]
  exact hK _ _ h

theorem size_one {P : Program} {t : TypeId} {i : TypeInfo} (hi : P.info? (P.elem t) = some i) (h1 : i.size = 1) (w : World) : (sizeOf (P.elem t)).run P w = .ok 1 w := by
  simp [sizeOf, typeInfo, hi, h1]

section
variable {α : Type} {f : α → Value} {P : Program} {t : TypeId}
/-- What is left behind k elements. -/
theorem run_behind_row (ht : P.underlying t = some (.slice (P.elem t))) (h1 : ∀ w, (sizeOf (P.elem t)).run P w = .ok 1 w) {S : Nat → Prop} {W : World} {A : Option Addr} {len cap k : Nat} {l : List α} (h : RowAt f S W (.slice A len cap) l) (kd : IntKind) (hk : k ≤ len) :
    ∃ v, (∀ w, (Instr.sliceAt t (.slice A len cap) (some (.int kd (k : Nat))) none none).run P w = .ok v w) ∧ RowAt f S W v (l.drop k) := by
  refine ⟨sliced A k len cap 1, fun w => ?_, ?_⟩
  · rw [run_sliceAt_slice (P := P) (w := w) _ _ _ _ _ ht, run_slice_l (P := P) (w := w) t A len cap ht kd (k : Nat) (by omega) (by omega), h1, Result.andThen_ok]
    simp
  · obtain ⟨A', c', e, hcap, hA, _⟩ := id h
    simp only [Value.slice.injEq] at e
    obtain ⟨rfl, rfl, rfl⟩ := e
    unfold sliced
    by_cases hck : cap = k
    · rw [if_pos hck, List.drop_eq_nil_of_le (by omega), show l.length - k = 0 by omega]
      exact RowAt.empty _ _ _ _ (fun _ => by omega)
    · rw [if_neg hck]
      rcases Nat.lt_or_ge k l.length with hlt | hge
      · obtain ⟨b, off, rfl, _⟩ := h.at (by omega)
        have := h.back k (cap - k) hlt (by omega)
        simpa [Addr.add_lit] using this
      · rw [List.drop_eq_nil_of_le hge, show l.length - k = 0 by omega]
        refine RowAt.empty _ _ _ _ (fun hn => ?_)
        cases A with
        | none => have := hA rfl; omega
        | some a => simp at hn
/-- The first k elements. -/
theorem run_ahead_row (ht : P.underlying t = some (.slice (P.elem t))) (h1 : ∀ w, (sizeOf (P.elem t)).run P w = .ok 1 w) {S : Nat → Prop} {W : World} {A : Option Addr} {len cap k : Nat} {l : List α} (h : RowAt f S W (.slice A len cap) l) (kd : IntKind) (hk : k ≤ len) :
    ∃ v, (∀ w, (Instr.sliceAt t (.slice A len cap) none (some (.int kd (k : Nat))) none).run P w = .ok v w) ∧ RowAt f S W v (l.take k) := by
  obtain ⟨A', c', e, hcap, hA, _⟩ := id h
  simp only [Value.slice.injEq] at e
  obtain ⟨rfl, rfl, rfl⟩ := e
  refine ⟨.slice A k cap, fun w => ?_, h.front k cap hk (by omega) hA⟩
  rw [run_sliceAt_slice (P := P) (w := w) _ _ _ _ _ ht, run_slice_h (P := P) (w := w) t A l.length cap ht kd (k : Nat) (by omega) (by omega), h1, Result.andThen_ok]
  unfold sliced
  cases A with
  | none => simp
  | some a => simp [Addr.add]
end

end Go.Proofs.Ytmfndimejnbgkaa.Law
