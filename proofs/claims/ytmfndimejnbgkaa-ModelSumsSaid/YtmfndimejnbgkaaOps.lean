/-
  An append whose run is known, as a step of the walk, guarded or not; plain and inside a fence.
-/
import Derived.Test.YtmfndimejnbgkaaLaw
import Derived.OwnWalk
import Derived.Lib.Hide
namespace Go.Proofs.Ytmfndimejnbgkaa.Law
open Go Go.RowKit

theorem wpList_append_ran {P : Program} {ops : Array Oper} {rest : List Oper} {o : Oper} {a : Act} {w : World} {Q : Exit → Act → World → Prop} (hgd : Region.wanted o (yielded ops a.tmps) = true) (s x : Operand) (t : TypeId)
    (ho : o.op = .call { callee := .builtin .append, args := #[s, x], argTypes := #[t, t] }) {v sv v' : Value} {w' : World} (hs : a.eval s = v) (hx : a.eval x = sv)
    (hrun : (Builtin.append_ #[t, t] o.type #[v, sv]).run P w = .ok v' w') (h : wpList P ops Q rest (a.put o.dst v') w') : wpList P ops Q (o :: rest) a w := by
  refine wpList_step fun K hK => ?_
  rw [if_pos hgd]
  unfold Oper.wp execOp
  simp only [ho, resolve, invoke, builtin, Sem.run_bind, Sem.run_pure, Result.andThen_ok, List.map_toArray, List.map_cons, List.map_nil, hs, hx, hrun]
  exact hK _ _ h

theorem Bytes.cells {n : Nat} {W : World} {A : Option Addr} {len cap : Nat} {bs : List Nat} (h : Bytes n W (.slice A len cap) bs) (hp : 0 < len) :
    ∃ b off, A = some ⟨b, off, none⟩ ∧ b < n ∧ ∀ j, j < len → W.cell? ⟨b, off + j, none⟩ = some (.int .u8 (bs.getD j 0 : Nat)) := by
  obtain ⟨A', cap', e, _, _, _, hc⟩ := h
  simp only [Value.slice.injEq] at e
  obtain ⟨rfl, rfl, rfl⟩ := e
  exact hc hp
theorem Bytes.capOk {n : Nat} {W : World} {A : Option Addr} {len cap : Nat} {bs : List Nat} (h : Bytes n W (.slice A len cap) bs) : len ≤ cap := by
  obtain ⟨A', cap', e, hl, _⟩ := h
  simp only [Value.slice.injEq] at e
  obtain ⟨rfl, rfl, rfl⟩ := e
  exact hl
theorem getD_lt {l : List Nat} (h : ∀ x ∈ l, x < 256) (k : Nat) : l.getD k 0 < 256 := by
  by_cases hk : k < l.length
  · have : l.getD k 0 = l[k] := by simp [List.getD, hk]
    rw [this]; exact h _ (List.getElem_mem _)
  · have : l.getD k 0 = 0 := by simp [List.getD, List.getElem?_eq_none (show l.length ≤ k by omega)]
    omega
theorem OwnB.alloc {W : World} {base : Nat} {e : TypeId} {sv : Value} {bs : List Nat} (h : OwnB W base e sv bs) (o : Obj) : OwnB (W.alloc o) base e sv bs := ⟨h.1.alloc o, h.2⟩
theorem OwnB.drew {W : World} {base : Nat} {e : TypeId} {sv : Value} {bs : List Nat} (h : OwnB W base e sv bs) : OwnB W.drew base e sv bs := ⟨h.1.drew, h.2⟩
theorem Bytes.drew {n : Nat} {W : World} {sv : Value} {bs : List Nat} (h : Bytes n W sv bs) : Bytes n W.drew sv bs := h

theorem OwnB.form {W : World} {base : Nat} {e : TypeId} {sv : Value} {bs : List Nat} (h : OwnB W base e sv bs) (hp : 0 < bs.length) :
    ∃ g cap, sv = .slice (some ⟨g, 0, none⟩) bs.length cap ∧ base ≤ g ∧ g < W.heap.size := by
  have hlt := h.1.lt
  rcases h.1.2 with ⟨_, hz⟩ | ⟨g, cap, cur, rfl, hb, _⟩
  · omega
  · exact ⟨g, cap, rfl, hb, (hlt g rfl).2⟩
theorem OwnB.cell {W : World} {base g len cap : Nat} {e : TypeId} {bs : List Nat} (h : OwnB W base e (.slice (some ⟨g, 0, none⟩) len cap) bs) (hl : bs.length = len) (j : Nat) (hj : j < len) :
    W.cell? ⟨g, j, none⟩ = some (.int .u8 (bs.getD j 0 : Nat)) ∧ W.frozen? ⟨g, j, none⟩ = false := by
  subst hl
  exact ⟨by rw [h.1.cellAt j (by omega)]; exact vals_get bs j hj, h.1.frozenAt j⟩
theorem OwnB.store {W : World} {base g len cap : Nat} {e : TypeId} {bs : List Nat} (h : OwnB W base e (.slice (some ⟨g, 0, none⟩) len cap) bs) (hl : bs.length = len) (j x : Nat) (hx : x < 256) :
    OwnB (W.setCell ⟨g, j, none⟩ (.int .u8 (x : Nat))) base e (.slice (some ⟨g, 0, none⟩) len cap) (bs.set j x) := by
  subst hl
  refine ⟨?_, fun y hy => ?_⟩
  · have := (h.1.stored j (.int .u8 (x : Nat))).1
    rw [List.length_set]
    have e1 : vals (bs.set j x) = (vals bs).set j (.int .u8 (x : Nat)) := by simp [vals, List.map_set]
    rw [e1]; exact this
  · rcases List.mem_or_eq_of_mem_set hy with h1 | rfl
    · exact h.2 y h1
    · exact hx

/-- An append onto bytes of the call's own, as one step of a region that draws its order. -/
theorem step_append_bytes {P : Program} {ops : Array Oper} {o : Oper} {a : Act} {w : World} {K : Act → World → Prop} {Q : Exit → Act → World → Prop} {E : Prop} (hgd : o.guard = none) (s x : Operand) (t : TypeId)
    (ho : o.op = .call { callee := .builtin .append, args := #[s, x], argTypes := #[t, t] }) {e : TypeId} {i : TypeInfo} {z : Value} (ht : P.underlying t = some (.slice e)) (hi : P.info? e = some i) (hz : i.zero = some z)
    (hsize : i.size = 1) (hby : i.bytes = 1) (hzs : z.cells.size = 1) {base n₁ : Nat} {v sv : Value} {xs bs : List Nat} (hs : a.eval s = v) (hx : a.eval x = sv) (hown : OwnB w base e v xs) (hI : Bytes n₁ w sv bs)
    (hroom : xs.length + bs.length ≤ 140737488355328) (hbase : base ≤ w.heap.size)
    (h : ∀ v' w', OwnB w' base e v' (xs ++ bs) → w.grownBy w' v.ownBlock → K (a.put o.dst v') w') : if Region.wanted o (yielded ops a.tmps) = true then Oper.wp P o a w K Q else E := by
  obtain ⟨v', w', hrun, h2, h3, _⟩ := run_append_bytes (P := P) w o.type ht hi hz hsize hby hzs hown hI hroom hbase
  have hw : Region.wanted o (yielded ops a.tmps) = true := by simp [Region.wanted, hgd]
  rw [if_pos hw]
  unfold Oper.wp execOp
  simp only [ho, resolve, invoke, builtin, Sem.run_bind, Sem.run_pure, Result.andThen_ok, List.map_toArray, List.map_cons, List.map_nil, hs, hx, hrun]
  exact h v' w' h2 h3

/-- An append onto bytes of the call's own, as a step of the walk, guarded or not. -/
theorem wpList_append_bytes {P : Program} {ops : Array Oper} {rest : List Oper} {o : Oper} {a : Act} {w : World} {Q : Exit → Act → World → Prop} (hgd : Region.wanted o (yielded ops a.tmps) = true) (s x : Operand) (t : TypeId)
    (ho : o.op = .call { callee := .builtin .append, args := #[s, x], argTypes := #[t, t] }) {e : TypeId} {i : TypeInfo} {z : Value} (ht : P.underlying t = some (.slice e)) (hi : P.info? e = some i) (hz : i.zero = some z)
    (hsize : i.size = 1) (hby : i.bytes = 1) (hzs : z.cells.size = 1) {base n₁ : Nat} {v sv : Value} {xs bs : List Nat} (hs : a.eval s = v) (hx : a.eval x = sv) (hown : OwnB w base e v xs) (hI : Bytes n₁ w sv bs)
    (hroom : xs.length + bs.length ≤ 140737488355328) (hbase : base ≤ w.heap.size)
    (h : ∀ v' w', OwnB w' base e v' (xs ++ bs) → w.grownBy w' v.ownBlock → wpList P ops Q rest (a.put o.dst v') w') : wpList P ops Q (o :: rest) a w := by
  obtain ⟨v', w', hrun, h2, h3, _⟩ := run_append_bytes (P := P) w o.type ht hi hz hsize hby hzs hown hI hroom hbase
  exact wpList_append_ran hgd s x t ho hs hx hrun (h v' w' h2 h3)

/-- Bytes that are laid as a literal. -/
theorem Bytes.lit (w : World) (t : TypeId) (cs : Array Value) (bs : List Nat) (n : Nat) (hn : bs.length = n) (hm : n ≤ 1048576) (hcs : cs.toList = vals bs) (h : ∀ x ∈ bs, x < 256) :
    Bytes (w.heap.size + 1) (w.alloc (.cells cs t)) (.slice (some ⟨w.heap.size, 0, none⟩) n n) bs := by
  subst hn
  have hsz : cs.size = bs.length * 1 := by
    have := congrArg List.length hcs
    rw [vals_length] at this
    simpa using this
  have h1 := World.ownsRow_lit (base := w.heap.size) (size := 1) (e := t) w cs bs.length (Nat.le_refl _) (by simp only [maxLen]; omega) hsz
  rw [hcs] at h1
  have := OwnB.bytes (base := w.heap.size) (e := t) (bs := bs) ⟨h1, h⟩
  rwa [World.size_alloc] at this

end Go.Proofs.Ytmfndimejnbgkaa.Law
