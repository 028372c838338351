/-
  For the walk of ModelEpochs: pairs compared, records cut at a place, the graph that adds up with another fold, and what Run answers of it.
-/
import Derived.Test.YtmfndimejnbgkaaModelKnown
import Derived.Test.YtmfndimejnbgkaaModelEpochsMath
import Derived.Laws.StructEq
namespace Go.Proofs.Ytmfndimejnbgkaa.Model
open Go Go.RowKit Go.Lib Go.Sort Go.Shelf Go.Maps Go.Proofs.Ytmfndimejnbgkaa.Law Go.Proofs.Ytmfndimejnbgkaa.Graph Go.Proofs.Ytmfndimejnbgkaa.Fold

theorem eq_pair (a b : Pr) (w : World) : (Op.equalIn 10000 47 (.agg #[.string a.key, .int .u32 (a.val : Nat)]) (.agg #[.string b.key, .int .u32 (b.val : Nat)])).run Try.prog w = .ok (decide (a = b)) w := by
  have hS : Try.prog.underlying 47 = some (.struct (Try.prog.fieldsOf 47)) := by kernel_rfl
  have hp : Try.prog.stoodInHeld 47 = false := by kernel_rfl
  have us := Try.underlying9
  have uu := Try.underlying25
  have z9 := Try.sizeOf9
  have z22 := Try.sizeOf25
  have a9 := Try.isAgg9
  have a22 := Try.isAgg25
  rw [show (10000 : Nat) = 9999 + 1 from rfl, run_equalIn_agg w 9999 47 _ _ hS hp]
  simp only [Program.fieldsOf, Try.underlying47]
  obtain ⟨ka, va⟩ := a
  obtain ⟨kb, vb⟩ := b
  by_cases h1 : ka = kb
  · subst h1
    by_cases h2 : va = vb
    · subst h2
      rw [decide_eq_true rfl]
      go_simp
    · rw [decide_eq_false (fun h => h2 (by cases h; rfl))]
      have h3 : ((va : Int) == (vb : Int)) = false := beq_eq_false_iff_ne.2 (by omega)
      dsimp only
      go_simp
  · rw [decide_eq_false (fun h => h1 (by cases h; rfl))]
    have hk : (ka.toList == kb.toList) = false := by
      rw [beq_eq_false_iff_ne]
      intro h0
      apply h1
      rw [Lib.toList_data, Lib.toList_data] at h0
      exact ByteArray.ext (Array.toList_inj.1 h0)
    dsimp only
    go_simp

/-- The stored fold. -/
theorem SumAt.set {W : World} {b : Nat} {x : Int} (h : SumAt W b x) (y : Int) : SumAt (W.setCell ⟨b + 1 + 1, 9, none⟩ (.int .i64 y)) b y := by
  obtain ⟨h0, h1, h2⟩ := h
  refine ⟨?_, ?_, ?_⟩
  · rw [Below.heap_setCell _ _ _ _ (by show b ≠ b + 1 + 1; omega)]; exact h0
  · rw [Below.heap_setCell _ _ _ _ (by show b + 1 ≠ b + 1 + 1; omega)]; exact h1
  · rw [setCell_eq_setRow _ _ _ _ _ _ _ h2]
    exact setRow_heap _ _ _ _ _ _ h2

theorem folded_wf {x : Int} {recs : List Rc} (h : wfR recs) : wfP (foldedN x (takenN (-1) recs) []) := by
  have hT := takenN_wf (a := -1) h
  unfold foldedN
  refine tabL_wf (keysL_short hT) fun s v hv => ?_
  exact foO_lt x _ v (fun u hu => by
    obtain ⟨p, hp, _, rfl⟩ := valsOf_mem hu
    exact (hT p hp).2) hv

/-- Run of the graph that folds. -/
theorem sumRun_calls {x : Int} {st : List (List Pr)} (hst : st.length * 24 ≤ 140737488351232) (hkl : ∀ p ∈ st, p.length * 24 ≤ 140737488351232) (hwk : ∀ p ∈ st, wfP p) {recs : List Rc} (hwr : wfR recs) (hrl : recs.length * 48 ≤ 140737488351232) (b : Nat) (sv rv : Value) (W : World)
    (hG : SumAt W b x) (hS : OldF W.heap.size W sv st) (hR : OldRc W.heap.size W rv recs) :
    Calls Try.prog 13 #[.agg #[.slice (some ⟨b + 1 + 1, 0, none⟩) 3 3], .agg #[sv], rv] W (RetRun (sumG x) st recs W) :=
  run_calls (sumG x) st recs (by show 3 * 72 ≤ _; omega) (by simp [sumG]) (by simp [sumG]) hst hkl hwk hwr hrl _ sv rv W hG.ops hS hR

theorem RecsAt.empty (S : Nat → Prop) (W : World) (A : Option Addr) (c : Nat) (hA : A = none → c = 0) : RecsAt S W (.slice A 0 c) [] := ⟨A, c, rfl, Nat.zero_le _, hA, fun h => absurd h (Nat.lt_irrefl _)⟩
theorem RecsAt.back {S : Nat → Prop} {W : World} {b off len cap : Nat} {l : List Rc} (h : RecsAt S W (.slice (some ⟨b, off, none⟩) len cap) l) (k c : Nat) (hk : k < len) (hc : len - k ≤ c) : RecsAt S W (.slice (some ⟨b, off + k * 5, none⟩) (len - k) c) (l.drop k) := by
  obtain ⟨A', cap', e, h2, _, h4⟩ := h
  simp only [Value.slice.injEq] at e
  obtain ⟨rfl, rfl, rfl⟩ := e
  have hl : (l.drop k).length = l.length - k := by rw [List.length_drop]
  refine ⟨_, c, by rw [hl], by omega, (fun h => by cases h), fun _ => ?_⟩
  obtain ⟨b', off', e1, h5, h6⟩ := h4 (by omega)
  simp only [Option.some.injEq, Addr.mk.injEq, and_true] at e1
  obtain ⟨rfl, rfl⟩ := e1
  refine ⟨b, off + k * 5, rfl, h5, fun j x hx => ?_⟩
  rw [List.getElem?_drop] at hx
  have := h6 (k + j) x hx
  rw [show off + k * 5 + j * 5 = off + (k + j) * 5 by omega]
  exact this
theorem elem_rec : Try.prog.underlying 37 = some (.slice (Try.prog.elem 37)) := by kernel_rfl
theorem size_rec : ∀ w, (sizeOf (Try.prog.elem 37)).run Try.prog w = .ok 5 w := fun w => by kernel_rfl
/-- The records from a place on. -/
theorem run_behind_recs {S : Nat → Prop} {W : World} {A : Option Addr} {len cap k : Nat} {l : List Rc} (h : RecsAt S W (.slice A len cap) l) (kd : IntKind) (hk : k ≤ len) :
    ∃ v, (∀ w, (Instr.sliceAt 37 (.slice A len cap) (some (.int kd (k : Nat))) none none).run Try.prog w = .ok v w) ∧ RecsAt S W v (l.drop k) := by
  refine ⟨sliced A k len cap 5, fun w => ?_, ?_⟩
  · obtain ⟨A', c', e, hcap, hA, _⟩ := id h
    simp only [Value.slice.injEq] at e
    obtain ⟨rfl, rfl, rfl⟩ := e
    rw [run_sliceAt_slice (P := Try.prog) (w := w) _ _ _ _ _ elem_rec, run_slice_l (P := Try.prog) (w := w) 37 A l.length cap elem_rec kd (k : Nat) (by omega) (by omega), size_rec, Result.andThen_ok]
    simp
  · obtain ⟨A', c', e, hcap, hA, _⟩ := id h
    simp only [Value.slice.injEq] at e
    obtain ⟨rfl, rfl, rfl⟩ := e
    unfold sliced
    by_cases hck : cap = k
    · rw [if_pos hck, List.drop_eq_nil_of_le (by omega), show l.length - k = 0 by omega]
      exact RecsAt.empty _ _ _ _ (fun _ => by omega)
    · rw [if_neg hck]
      rcases Nat.lt_or_ge k l.length with hlt | hge
      · obtain ⟨b, off, rfl, _⟩ := h.at (by omega)
        have := h.back k (cap - k) hlt (by omega)
        simpa [Addr.add_lit] using this
      · rw [List.drop_eq_nil_of_le hge, show l.length - k = 0 by omega]
        refine RecsAt.empty _ _ _ _ (fun hn => ?_)
        cases A with
        | none => have := hA rfl; omega
        | some a => simp at hn
/-- The first k records. -/
theorem run_ahead_recs {S : Nat → Prop} {W : World} {A : Option Addr} {len cap k : Nat} {l : List Rc} (h : RecsAt S W (.slice A len cap) l) (kd : IntKind) (hk : k ≤ len) :
    ∃ v, (∀ w, (Instr.sliceAt 37 (.slice A len cap) none (some (.int kd (k : Nat))) none).run Try.prog w = .ok v w) ∧ RecsAt S W v (l.take k) := by
  obtain ⟨A', cap', e, hcap, hA, h4⟩ := id h
  simp only [Value.slice.injEq] at e
  obtain ⟨rfl, rfl, rfl⟩ := e
  have hl : (l.take k).length = k := by rw [List.length_take]; omega
  refine ⟨.slice A k cap, fun w => ?_, A, cap, by rw [hl], by omega, hA, fun hp => ?_⟩
  · rw [run_sliceAt_slice (P := Try.prog) (w := w) _ _ _ _ _ elem_rec, run_slice_h (P := Try.prog) (w := w) 37 A l.length cap elem_rec kd (k : Nat) (by omega) (by omega), size_rec, Result.andThen_ok]
    unfold sliced
    cases A with
    | none => simp
    | some a => simp [Addr.add]
  · obtain ⟨b, off, e1, h5, h6⟩ := h4 (by omega)
    refine ⟨b, off, e1, h5, fun j x hx => h6 j x ?_⟩
    rw [List.getElem?_take] at hx
    split at hx
    · exact hx
    · cases hx

end Go.Proofs.Ytmfndimejnbgkaa.Model
