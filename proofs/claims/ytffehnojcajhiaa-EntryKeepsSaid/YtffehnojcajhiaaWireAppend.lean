/-
  An append of a text's bytes onto bytes of the call's own; appends in whatever guise as steps.
-/
import Derived.Test.YtffehnojcajhiaaWireNums
import Derived.Lib.AppendStr
namespace Go.Proofs.Ytffehnojcajhiaa.Wire
open Go Go.RowKit Go.Proofs.Ytffehnojcajhiaa.Law

theorem strCells_vals (s : ByteArray) : Lib.strCells s = vals (sb s) := by
  unfold Lib.strCells vals sb
  rw [List.map_map]
  rfl

theorem run_append_str (w : World) {t u e : TypeId} (ty : TypeId) {P : Program} {i : TypeInfo} (ht : P.underlying t = some (.slice e)) (hu : P.underlying u = some .string) (hi : P.info? e = some i) (hz : i.zero = some (.int .u8 0))
    (hsize : i.size = 1) (hby : i.bytes = 1) {base : Nat} {v : Value} {xs : List Nat} (hown : OwnB w base e v xs) (s : ByteArray)
    (hroom : xs.length + s.size ≤ 140737488355328) (hbase : base ≤ w.heap.size) :
    ∃ v' w', (Builtin.append_ #[t, u] ty #[v, .string s]).run P w = .ok v' w' ∧ OwnB w' base e v' (xs ++ sb s) ∧ w.grownBy w' v.ownBlock := by
  obtain ⟨v', w', h1, h2, h3, _⟩ := Lib.run_append_own_string (P := P) w base t u ty e i ht hu hi hz hsize hby v xs.length (vals xs) hown.1 s (by simp only [maxLen]; omega) hroom hbase
  refine ⟨v', w', h1, ⟨?_, ?_⟩, h3⟩
  · rw [List.length_append, sb_length, vals_append, ← strCells_vals]; exact h2
  · intro x hx
    rcases List.mem_append.1 hx with h | h
    · exact hown.2 x h
    · exact sb_lt s x h

/-- As a step of the walk, guarded or not. -/
theorem wpList_append_str {P : Program} {ops : Array Oper} {rest : List Oper} {o : Oper} {a : Act} {w : World} {Q : Exit → Act → World → Prop} (hgd : Region.wanted o (yielded ops a.tmps) = true) (s x : Operand) (t u : TypeId)
    (ho : o.op = .call { callee := .builtin .append, args := #[s, x], argTypes := #[t, u] }) {e : TypeId} {i : TypeInfo} (ht : P.underlying t = some (.slice e)) (hu : P.underlying u = some .string) (hi : P.info? e = some i) (hz : i.zero = some (.int .u8 0))
    (hsize : i.size = 1) (hby : i.bytes = 1) {base : Nat} {v : Value} {xs : List Nat} {str : ByteArray} (hs : a.eval s = v) (hx : a.eval x = .string str) (hown : OwnB w base e v xs)
    (hroom : xs.length + str.size ≤ 140737488355328) (hbase : base ≤ w.heap.size)
    (h : ∀ v' w', OwnB w' base e v' (xs ++ sb str) → w.grownBy w' v.ownBlock → wpList P ops Q rest (a.put o.dst v') w') : wpList P ops Q (o :: rest) a w := by
  obtain ⟨v', w', hrun, h2, h3⟩ := run_append_str (P := P) w o.type ht hu hi hz hsize hby hown str hroom hbase
  refine wpList_step fun K hK => ?_
  rw [if_pos hgd]
  unfold Oper.wp execOp
  simp only [ho, resolve, invoke, builtin, Sem.run_bind, Sem.run_pure, Result.andThen_ok, List.map_toArray, List.map_cons, List.map_nil, hs, hx, hrun]
  exact hK _ _ (h v' w' h2 h3)

/-- As a step of a region that draws its order. -/
theorem step_append_str {P : Program} {ops : Array Oper} {o : Oper} {a : Act} {w : World} {K : Act → World → Prop} {Q : Exit → Act → World → Prop} {E : Prop} (hgd : o.guard = none) (s x : Operand) (t u : TypeId)
    (ho : o.op = .call { callee := .builtin .append, args := #[s, x], argTypes := #[t, u] }) {e : TypeId} {i : TypeInfo} (ht : P.underlying t = some (.slice e)) (hu : P.underlying u = some .string) (hi : P.info? e = some i) (hz : i.zero = some (.int .u8 0))
    (hsize : i.size = 1) (hby : i.bytes = 1) {base : Nat} {v : Value} {xs : List Nat} {str : ByteArray} (hs : a.eval s = v) (hx : a.eval x = .string str) (hown : OwnB w base e v xs)
    (hroom : xs.length + str.size ≤ 140737488355328) (hbase : base ≤ w.heap.size)
    (h : ∀ v' w', OwnB w' base e v' (xs ++ sb str) → w.grownBy w' v.ownBlock → K (a.put o.dst v') w') : if Region.wanted o (yielded ops a.tmps) = true then Oper.wp P o a w K Q else E := by
  obtain ⟨v', w', hrun, h2, h3⟩ := run_append_str (P := P) w o.type ht hu hi hz hsize hby hown str hroom hbase
  have hw : Region.wanted o (yielded ops a.tmps) = true := by simp [Region.wanted, hgd]
  rw [if_pos hw]
  unfold Oper.wp execOp
  simp only [ho, resolve, invoke, builtin, Sem.run_bind, Sem.run_pure, Result.andThen_ok, List.map_toArray, List.map_cons, List.map_nil, hs, hx, hrun]
  exact h v' w' h2 h3

/-- An append onto bytes of the call's own as a step of a region that draws its order; where the new slice lies is told. -/
theorem step_append_bytes_at {P : Program} {ops : Array Oper} {o : Oper} {a : Act} {w : World} {K : Act → World → Prop} {Q : Exit → Act → World → Prop} {E : Prop} (hgd : o.guard = none) (s x : Operand) (t : TypeId)
    (ho : o.op = .call { callee := .builtin .append, args := #[s, x], argTypes := #[t, t] }) {e : TypeId} {i : TypeInfo} {z : Value} (ht : P.underlying t = some (.slice e)) (hi : P.info? e = some i) (hz : i.zero = some z)
    (hsize : i.size = 1) (hby : i.bytes = 1) (hzs : z.cells.size = 1) {base n₁ : Nat} {v sv : Value} {xs bs : List Nat} (hs : a.eval s = v) (hx : a.eval x = sv) (hown : OwnB w base e v xs) (hI : Bytes n₁ w sv bs)
    (hroom : xs.length + bs.length ≤ 140737488355328) (hbase : base ≤ w.heap.size)
    (h : ∀ v' w', OwnB w' base e v' (xs ++ bs) → w.grownBy w' v.ownBlock → (v'.ownBlock = v.ownBlock ∨ v'.ownBlock = some w.heap.size) → K (a.put o.dst v') w') : if Region.wanted o (yielded ops a.tmps) = true then Oper.wp P o a w K Q else E := by
  obtain ⟨v', w', hrun, h2, h3, h4⟩ := run_append_bytes (P := P) w o.type ht hi hz hsize hby hzs hown hI hroom hbase
  have hw : Region.wanted o (yielded ops a.tmps) = true := by simp [Region.wanted, hgd]
  rw [if_pos hw]
  unfold Oper.wp execOp
  simp only [ho, resolve, invoke, builtin, Sem.run_bind, Sem.run_pure, Result.andThen_ok, List.map_toArray, List.map_cons, List.map_nil, hs, hx, hrun]
  exact h v' w' h2 h3 h4

/-- Bytes that are laid as a literal, in a block whose number is told. -/
theorem litAt (w : World) (t : TypeId) (cs : Array Value) (bs : List Nat) (n b : Nat) (hb : w.heap.size = b) (hn : bs.length = n) (hm : n ≤ 1048576) (hcs : cs.toList = vals bs) (h : ∀ x ∈ bs, x < 256) :
    Bytes (b + 1) (w.alloc (.cells cs t)) (.slice (some ⟨b, 0, none⟩) n n) bs := by
  subst hb
  exact Bytes.lit w t cs bs n hn hm hcs h

end Go.Proofs.Ytffehnojcajhiaa.Wire
