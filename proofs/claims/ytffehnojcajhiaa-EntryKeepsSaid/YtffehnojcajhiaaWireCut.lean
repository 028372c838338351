/-
  Pieces of bytes: what is cut off ahead or behind, as a step of the walk.
-/
import Derived.Test.YtffehnojcajhiaaWireRefNum
namespace Go.Proofs.Ytffehnojcajhiaa.Wire
open Go Go.RowKit Go.Proofs.Ytffehnojcajhiaa.Law

theorem wpList_slice_ran {P : Program} {ops : Array Oper} {rest : List Oper} {o : Oper} {a : Act} {w : World} {Q : Exit → Act → World → Prop} (hgd : Region.wanted o (yielded ops a.tmps) = true) (t : TypeId) (x : Operand) (lo hi mx : Option Operand)
    (ho : o.op = .slice t x lo hi mx) {xv v' : Value} {lov hiv mxv : Option Value} (hx : a.eval x = xv) (hlo : lo.map a.eval = lov) (hhi : hi.map a.eval = hiv) (hmx : mx.map a.eval = mxv)
    (hrun : (Instr.sliceAt t xv lov hiv mxv).run P w = .ok v' w) (h : wpList P ops Q rest (a.put o.dst v') w) : wpList P ops Q (o :: rest) a w := by
  refine wpList_step fun K hK => ?_
  rw [if_pos hgd]
  unfold Oper.wp execOp
  simp only [ho, hx, hlo, hhi, hmx, Sem.run_bind, Sem.run_pure, hrun, Result.andThen_ok]
  exact hK _ _ h

theorem elem_bytes : Try.prog.underlying 48 = some (.slice (Try.prog.elem 48)) := by kernel_rfl
theorem size_byte (w : World) : (sizeOf (Try.prog.elem 48)).run Try.prog w = .ok 1 w := by
  have : Try.prog.elem 48 = 5 := by kernel_rfl
  rw [this]
  obtain ⟨i0, hi, _, hz1, _⟩ := info_parts info_u8w
  simp [sizeOf, typeInfo, hi, hz1]

/-- What is left behind k bytes. -/
theorem run_behind {n₀ : Nat} {W : World} {A : Option Addr} {len cap k : Nat} {bs : List Nat} (h : Bytes n₀ W (.slice A len cap) bs) (kd : IntKind) (hk : k ≤ len) :
    ∃ v, (∀ w, (Instr.sliceAt 48 (.slice A len cap) (some (.int kd (k : Nat))) none none).run Try.prog w = .ok v w) ∧ Bytes n₀ W v (bs.drop k) := by
  refine ⟨sliced A k len cap 1, fun w => ?_, ?_⟩
  · rw [run_sliceAt_slice (P := Try.prog) (w := w) _ _ _ _ _ elem_bytes, run_slice_l (P := Try.prog) (w := w) 48 A len cap elem_bytes kd (k : Nat) (by omega) (by omega), size_byte, Result.andThen_ok]
    simp
  · have hcap := h.capOk
    have hlen : bs.length = len := by
      obtain ⟨A', c', e, _⟩ := h
      simp only [Value.slice.injEq] at e
      omega
    rcases Nat.eq_zero_or_pos len with h0 | hp
    · subst h0
      obtain rfl : k = 0 := by omega
      have hb0 : bs = [] := List.eq_nil_of_length_eq_zero hlen
      subst hb0
      obtain ⟨A', c', e, _, hA, _⟩ := h
      simp only [Value.slice.injEq] at e
      obtain ⟨rfl, -, rfl⟩ := e
      refine ⟨_, cap, rfl, Nat.zero_le _, fun hn => ?_, by simp, fun hh => by simp at hh⟩
      by_cases hc : cap = 0
      · exact hc
      · rw [if_neg hc] at hn
        cases A with
        | none => exact hA rfl
        | some a => simp at hn
    · have := bytes_cut h hk hp
      obtain ⟨b, off, rfl, _⟩ := h.cells hp
      unfold cutAt at this
      unfold sliced
      by_cases hck : cap = k
      · rw [if_pos hck] at this ⊢
        rw [show len - k = 0 by omega, show cap - k = 0 by omega]; exact this
      · rw [if_neg hck] at this ⊢
        by_cases hk0 : k = 0
        · subst hk0; simpa [Addr.add] using this
        · simpa [Addr.add_lit] using this

/-- The first k bytes. -/
theorem run_ahead {n₀ : Nat} {W : World} {A : Option Addr} {len cap k : Nat} {bs : List Nat} (h : Bytes n₀ W (.slice A len cap) bs) (kd : IntKind) (hk : k ≤ len) :
    ∃ v, (∀ w, (Instr.sliceAt 48 (.slice A len cap) none (some (.int kd (k : Nat))) none).run Try.prog w = .ok v w) ∧ Bytes n₀ W v (bs.take k) := by
  have hcap := h.capOk
  have hlen : bs.length = len := by
    obtain ⟨A', c', e, _⟩ := h
    simp only [Value.slice.injEq] at e
    omega
  refine ⟨.slice A k cap, fun w => ?_, h.front k (by omega)⟩
  rw [run_sliceAt_slice (P := Try.prog) (w := w) _ _ _ _ _ elem_bytes, run_slice_h (P := Try.prog) (w := w) 48 A len cap elem_bytes kd (k : Nat) (by omega) (by omega), size_byte, Result.andThen_ok]
  unfold sliced
  cases A with
  | none => simp
  | some a => simp [Addr.add]

end Go.Proofs.Ytffehnojcajhiaa.Wire
