/-
  A store into a map and a delete out of one, whose runs are known, as steps of the walk. Of whatever program.
-/
import Derived.Test.YtmfndimejnbgkaaMapP
namespace Go.Proofs.Ytmfndimejnbgkaa.Law
open Go Go.RowKit

theorem wpList_mapUpdate_ran {P : Program} {ops : Array Oper} {rest : List Oper} {o : Oper} {a : Act} {w w' : World} {Q : Exit → Act → World → Prop} (hgd : Region.wanted o (yielded ops a.tmps) = true) (t : TypeId) (m x v : Operand)
    (ho : o.op = .mapUpdate t m x v) {mv xv vv : Value} (hm : a.eval m = mv) (hx : a.eval x = xv) (hv : a.eval v = vv) (hrun : (Instr.mapUpdate t mv xv vv).run P w = .ok () w') (h : wpList P ops Q rest (a.put o.dst undef) w') : wpList P ops Q (o :: rest) a w := by
  refine wpList_step fun K hK => ?_
  rw [if_pos hgd]
  unfold Oper.wp
  simp [execOp, ho, hm, hx, hv, hrun, Result.andThen]
  exact hK _ _ h
theorem wpList_delete_ran {P : Program} {ops : Array Oper} {rest : List Oper} {o : Oper} {a : Act} {w w' : World} {Q : Exit → Act → World → Prop} (hgd : Region.wanted o (yielded ops a.tmps) = true) (s x : Operand) (t u : TypeId)
    (ho : o.op = .call { callee := .builtin .delete, args := #[s, x], argTypes := #[t, u] }) {v sv v' : Value} (hs : a.eval s = v) (hx : a.eval x = sv)
    (hrun : (Builtin.delete_ #[t, u] o.type #[v, sv]).run P w = .ok v' w') (h : wpList P ops Q rest (a.put o.dst v') w') : wpList P ops Q (o :: rest) a w := by
  refine wpList_step fun K hK => ?_
  rw [if_pos hgd]
  unfold Oper.wp execOp
  simp only [ho, resolve, invoke, builtin, Sem.run_bind, Sem.run_pure, Result.andThen_ok, List.map_toArray, List.map_cons, List.map_nil, hs, hx, hrun]
  exact hK _ _ h
theorem wpList_range_ran {P : Program} {ops : Array Oper} {rest : List Oper} {o : Oper} {a : Act} {w w' : World} {Q : Exit → Act → World → Prop} (hgd : Region.wanted o (yielded ops a.tmps) = true) (t : TypeId) (m : Operand)
    (ho : o.op = .range t m) {mv v : Value} (hm : a.eval m = mv) (hrun : (Instr.range t mv).run P w = .ok v w') (h : wpList P ops Q rest (a.put o.dst v) w') : wpList P ops Q (o :: rest) a w := by
  refine wpList_exec_ran hgd (v := v) (w' := w') ?_ h
  unfold execOp
  simp only [ho, hm, Sem.run_bind, Sem.run_pure, hrun, Result.andThen_ok]
theorem wpList_next_ran {P : Program} {ops : Array Oper} {rest : List Oper} {o : Oper} {a : Act} {w w' : World} {Q : Exit → Act → World → Prop} (hgd : Region.wanted o (yielded ops a.tmps) = true) (m : Operand) (b : Bool)
    (ho : o.op = .next m b) {mv v : Value} (hm : a.eval m = mv) (hrun : (Instr.next mv b o.type).run P w = .ok v w') (h : wpList P ops Q rest (a.put o.dst v) w') : wpList P ops Q (o :: rest) a w := by
  refine wpList_exec_ran hgd (v := v) (w' := w') ?_ h
  unfold execOp
  simp only [ho, hm, Sem.run_bind, Sem.run_pure, hrun, Result.andThen_ok]
theorem wpList_entry_ran {P : Program} {ops : Array Oper} {rest : List Oper} {o : Oper} {a : Act} {w w' : World} {Q : Exit → Act → World → Prop} (hgd : Region.wanted o (yielded ops a.tmps) = true) (m : Operand)
    (ho : o.op = .entry m) {mv v : Value} (hm : a.eval m = mv) (hrun : (Instr.entry mv).run P w = .ok v w') (h : wpList P ops Q rest (a.put o.dst v) w') : wpList P ops Q (o :: rest) a w := by
  refine wpList_exec_ran hgd (v := v) (w' := w') ?_ h
  unfold execOp
  simp only [ho, hm, Sem.run_bind, Sem.run_pure, hrun, Result.andThen_ok]

section
open Go.Maps Go.ChangeMaps Go.WideMaps
theorem beqBA (a b : ByteArray) : (a == b) = (a.data == b.data) := rfl
instance lawfulBA : LawfulBEq ByteArray where
  eq_of_beq {a b} h := by
    rw [beqBA] at h
    have := eq_of_beq h
    cases a; cases b
    simp only at this
    rw [this]
  rfl {a} := by rw [beqBA]; exact beq_self_eq_true _

/-- A range over a map under way: the names that are still to come. -/
def Rng (P : Program) (k : TypeId) (W : World) (b r n : Nat) (F : ByteArray → Option Nat) (rest : List ByteArray) (cnt : Nat) : Prop :=
  RangeP P k W b r n F (fun s => decide (s ∈ rest)) cnt ∧ rest.Nodup ∧ ∀ s ∈ rest, Short s

variable {P : Program} {k e t : TypeId} {W W' : World} {b r n cnt : Nat} {F : ByteArray → Option Nat} {rest : List ByteArray}
theorem RangeP.left (h : RangeP P k W b r n F (fun s => decide (s ∈ rest)) cnt) : W.rangeLeft b r = cnt := by
  obtain ⟨D, left, h, _⟩ := h
  exact h.left_eq
theorem RangeP.same {L L' : ByteArray → Bool} (h : RangeP P k W b r n F L cnt) (hL : ∀ s, Short s → L s = L' s) : RangeP P k W b r n F L' cnt := by
  obtain ⟨D, left, h1, h2, h3⟩ := h
  exact ⟨D, left, h1, h2, fun s hs => (h3 s hs).trans (hL s hs)⟩
theorem Rng.left (h : Rng P k W b r n F rest cnt) : W.rangeLeft b r = cnt := RangeP.left h.1
theorem Rng.map (h : Rng P k W b r n F rest cnt) : MapP P k W b n F := h.1.map
theorem Rng.kept {row : Option Nat} (h : Rng P k W b r n F rest cnt) (hg : W.grownBy W' row) (hb : some b ≠ row) (hr : some r ≠ row) : Rng P k W' b r n F rest cnt := ⟨h.1.kept hg hb hr, h.2⟩
theorem Rng.at (h : Rng P k W b r n F rest cnt) (hb : W'.heap[b]? = W.heap[b]?) (hr : W'.heap[r]? = W.heap[r]?) : Rng P k W' b r n F rest cnt := ⟨h.1.at hb hr, h.2⟩
theorem Rng.iterLt (h : Rng P k W b r n F rest cnt) : r < W.heap.size := by
  obtain ⟨⟨D, left, ⟨es, clock, since, seen, c0, h1, h2, h3, h4, h5, h6⟩, h7⟩, _⟩ := h
  exact (Array.getElem?_eq_some_iff.1 h5).1
theorem Rng.isIter (h : Rng P k W b r n F rest cnt) : ∃ a b c d, W.heap[r]? = some (.mapIter a b c d) := by
  obtain ⟨⟨D, left, ⟨es, clock, since, seen, c0, h1, h2, h3, h4, h5, h6⟩, h7⟩, _⟩ := h
  exact ⟨_, _, _, _, h5⟩
theorem MapP.isMap (h : MapP P k W b n F) : ∃ a c, W.heap[b]? = some (.map a c) := by
  obtain ⟨D, ⟨es, clock, h1, _⟩, _⟩ := h
  exact ⟨_, _, h1⟩

theorem MapP.rng (h : MapP P k W b n F) (hk : P.underlying k = some .string) (ht : P.underlying t = some (.map k e)) (names : List ByteArray) (hn : names.Nodup) (hs : ∀ s ∈ names, Short s) (hd : ∀ s, Short s → ((F s).isSome ↔ s ∈ names)) :
    ∃ w' cnt, (Instr.range t (.map (some b))).run P W = .ok (.pointer (some ⟨W.heap.size, 0, none⟩)) w' ∧ Rng P k w' b W.heap.size n F names cnt ∧ W.grownBy w' none ∧ w'.heap.size = W.heap.size + 1 := by
  obtain ⟨w', cnt, h1, h2, h3, h4⟩ := h.range hk ht
  refine ⟨w', cnt, h1, ⟨h2.same fun s hs' => ?_, hn, hs⟩, h3, h4⟩
  rw [Bool.eq_iff_iff]
  simpa using hd s hs'

theorem Rng.next (h : Rng P k W b r n F rest cnt) (hk : P.underlying k = some .string) (ty : TypeId) :
    (rest = [] ∧ (Instr.next (.pointer (some ⟨r, 0, none⟩)) false ty).run P W = .ok (.tuple #[.bool false]) W) ∨
    ∃ s g w' cnt', s ∈ rest ∧ F s = some g ∧ (Instr.next (.pointer (some ⟨r, 0, none⟩)) false ty).run P W = .ok (.tuple #[.bool true, .string s, .pointer (some ⟨g, 0, none⟩)]) w' ∧
      Rng P k w' b r n F (rest.erase s) cnt' ∧ cnt' < cnt ∧ W.grownBy w' (some r) ∧ w'.heap.size = W.heap.size ∧ (Instr.entry (.pointer (some ⟨r, 0, none⟩))).run P w' = .ok (.tuple #[.string s, .pointer (some ⟨g, 0, none⟩)]) w' := by
  obtain ⟨h, hn, hs⟩ := h
  rcases h.next hk ty with ⟨_, h1, h2⟩ | ⟨s, g, w', cnt', h1, h2, h3, h4, h5, h6, h7, h8, h9⟩
  · refine .inl ⟨?_, h2⟩
    cases rest with
    | nil => rfl
    | cons a l =>
      have := h1 a (hs a (by simp))
      simp at this
  · refine .inr ⟨s, g, w', cnt', by simpa using h2, h3, h4, ⟨h5.same fun x _ => ?_, hn.erase _, fun x hx => hs x (List.mem_of_mem_erase hx)⟩, h6, h7, h8, h9⟩
    rw [Bool.eq_iff_iff]
    simp only [Bool.and_eq_true, decide_eq_true_eq, Bool.not_eq_true', decide_eq_false_iff_not, hn.mem_erase_iff]
    exact and_comm

theorem Rng.drop (h : Rng P k W b r n F rest cnt) (hk : P.underlying k = some .string) (ht : P.underlying t = some (.map k e)) {s : ByteArray} (hs : Short s) (hout : s ∉ rest) (ty : TypeId) :
    ∃ w' cnt', (Builtin.delete_ #[t, k] ty #[.map (some b), .string s]).run P W = .ok (.tuple #[]) w' ∧ Rng P k w' b r n (fun x => if x = s then none else F x) rest cnt' ∧ cnt' ≤ cnt ∧ W.mapTurned w' b := by
  obtain ⟨h, hn, hsh⟩ := h
  obtain ⟨w', cnt', h1, h2, h3, h4⟩ := h.drop hk ht hs ty
  refine ⟨w', cnt', h1, ⟨h2.same fun x _ => ?_, hn, hsh⟩, h3, h4⟩
  rw [Bool.eq_iff_iff]
  simp only [Bool.and_eq_true, decide_eq_true_eq, Bool.not_eq_true', decide_eq_false_iff_not]
  exact ⟨fun h => h.1, fun h => ⟨h, fun e => hout (e ▸ h)⟩⟩
end

end Go.Proofs.Ytmfndimejnbgkaa.Law
