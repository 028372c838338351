/-
  Put together out of texts of one chain: what they hold stands ahead of each.
-/
import Derived.Test.YtnjjjalenhbicaaGDiskStands01
import Derived.OwnWalk
import Derived.Lib.Hide
import Derived.Deep.Matrix
/-
  An append whose run is known, as a step of the walk, guarded or not; plain and inside a fence.
-/
namespace Go.Proofs.Ytnjjjalenhbicaa.Law
open Go Go.RowKit

theorem wpList_append_ran {P : Program} {ops : Array Oper} {rest : List Oper} {o : Oper} {a : Act} {w : World} {Q : Exit → Act → World → Prop} (hgd : Region.wanted o (yielded ops a.tmps) = true) (s x : Operand) (t : TypeId)
    (ho : o.op = .call { callee := .builtin .append, args := #[s, x], argTypes := #[t, t] }) {v sv v' : Value} {w' : World} (hs : a.eval s = v) (hx : a.eval x = sv)
    (hrun : (Builtin.append_ #[t, t] o.type #[v, sv]).run P w = .ok v' w') (h : wpList P ops Q rest (a.put o.dst v') w') : wpList P ops Q (o :: rest) a w := by
  refine wpList_step fun K hK => ?_
  rw [if_pos hgd]
  unfold Oper.wp execOp
  simp only [ho, resolve, invoke, builtin, Sem.run_bind, Sem.run_pure, Result.andThen_ok, List.map_toArray, List.map_cons, List.map_nil, hs, hx, hrun]
  exact hK _ _ h

theorem Bytes.cells {n : Nat} {W : World} {A : Option Addr} {len cap : Nat} {bs : List Nat} (h : Bytes n W (.slice A len cap) bs) (hp : 0 < len) :
    ∃ b off, A = some ⟨b, off, none⟩ ∧ b < n ∧ ∀ j, j < len → W.cell? ⟨b, off + j, none⟩ = some (.int .u8 (bs.getD j 0 : Nat)) := by
  obtain ⟨A', cap', e, _, _, _, hc⟩ := h
  simp only [Value.slice.injEq] at e
  obtain ⟨rfl, rfl, rfl⟩ := e
  exact hc hp
theorem Bytes.capOk {n : Nat} {W : World} {A : Option Addr} {len cap : Nat} {bs : List Nat} (h : Bytes n W (.slice A len cap) bs) : len ≤ cap := by
  obtain ⟨A', cap', e, hl, _⟩ := h
  simp only [Value.slice.injEq] at e
  obtain ⟨rfl, rfl, rfl⟩ := e
  exact hl
theorem getD_lt {l : List Nat} (h : ∀ x ∈ l, x < 256) (k : Nat) : l.getD k 0 < 256 := by
  by_cases hk : k < l.length
  · have : l.getD k 0 = l[k] := by simp [List.getD, hk]
    rw [this]; exact h _ (List.getElem_mem _)
  · have : l.getD k 0 = 0 := by simp [List.getD, List.getElem?_eq_none (show l.length ≤ k by omega)]
    omega
theorem OwnB.alloc {W : World} {base : Nat} {e : TypeId} {sv : Value} {bs : List Nat} (h : OwnB W base e sv bs) (o : Obj) : OwnB (W.alloc o) base e sv bs := ⟨h.1.alloc o, h.2⟩
theorem OwnB.drew {W : World} {base : Nat} {e : TypeId} {sv : Value} {bs : List Nat} (h : OwnB W base e sv bs) : OwnB W.drew base e sv bs := ⟨h.1.drew, h.2⟩
theorem Bytes.drew {n : Nat} {W : World} {sv : Value} {bs : List Nat} (h : Bytes n W sv bs) : Bytes n W.drew sv bs := h

theorem OwnB.form {W : World} {base : Nat} {e : TypeId} {sv : Value} {bs : List Nat} (h : OwnB W base e sv bs) (hp : 0 < bs.length) :
    ∃ g cap, sv = .slice (some ⟨g, 0, none⟩) bs.length cap ∧ base ≤ g ∧ g < W.heap.size := by
  have hlt := h.1.lt
  rcases h.1.2 with ⟨_, hz⟩ | ⟨g, cap, cur, rfl, hb, _⟩
  · omega
  · exact ⟨g, cap, rfl, hb, (hlt g rfl).2⟩
theorem OwnB.cell {W : World} {base g len cap : Nat} {e : TypeId} {bs : List Nat} (h : OwnB W base e (.slice (some ⟨g, 0, none⟩) len cap) bs) (hl : bs.length = len) (j : Nat) (hj : j < len) :
    W.cell? ⟨g, j, none⟩ = some (.int .u8 (bs.getD j 0 : Nat)) ∧ W.frozen? ⟨g, j, none⟩ = false := by
  subst hl
  exact ⟨by rw [h.1.cellAt j (by omega)]; exact vals_get bs j hj, h.1.frozenAt j⟩
theorem OwnB.store {W : World} {base g len cap : Nat} {e : TypeId} {bs : List Nat} (h : OwnB W base e (.slice (some ⟨g, 0, none⟩) len cap) bs) (hl : bs.length = len) (j x : Nat) (hx : x < 256) :
    OwnB (W.setCell ⟨g, j, none⟩ (.int .u8 (x : Nat))) base e (.slice (some ⟨g, 0, none⟩) len cap) (bs.set j x) := by
  subst hl
  refine ⟨?_, fun y hy => ?_⟩
  · have := (h.1.stored j (.int .u8 (x : Nat))).1
    rw [List.length_set]
    have e1 : vals (bs.set j x) = (vals bs).set j (.int .u8 (x : Nat)) := by simp [vals, List.map_set]
    rw [e1]; exact this
  · rcases List.mem_or_eq_of_mem_set hy with h1 | rfl
    · exact h.2 y h1
    · exact hx

/-- An append onto bytes of the call's own, as one step of a region that draws its order. -/
theorem step_append_bytes {P : Program} {ops : Array Oper} {o : Oper} {a : Act} {w : World} {K : Act → World → Prop} {Q : Exit → Act → World → Prop} {E : Prop} (hgd : o.guard = none) (s x : Operand) (t : TypeId)
    (ho : o.op = .call { callee := .builtin .append, args := #[s, x], argTypes := #[t, t] }) {e : TypeId} {i : TypeInfo} {z : Value} (ht : P.underlying t = some (.slice e)) (hi : P.info? e = some i) (hz : i.zero = some z)
    (hsize : i.size = 1) (hby : i.bytes = 1) (hzs : z.cells.size = 1) {base n₁ : Nat} {v sv : Value} {xs bs : List Nat} (hs : a.eval s = v) (hx : a.eval x = sv) (hown : OwnB w base e v xs) (hI : Bytes n₁ w sv bs)
    (hroom : xs.length + bs.length ≤ 140737488355328) (hbase : base ≤ w.heap.size)
    (h : ∀ v' w', OwnB w' base e v' (xs ++ bs) → w.grownBy w' v.ownBlock → K (a.put o.dst v') w') : if Region.wanted o (yielded ops a.tmps) = true then Oper.wp P o a w K Q else E := by
  obtain ⟨v', w', hrun, h2, h3, _⟩ := run_append_bytes (P := P) w o.type ht hi hz hsize hby hzs hown hI hroom hbase
  have hw : Region.wanted o (yielded ops a.tmps) = true := by simp [Region.wanted, hgd]
  rw [if_pos hw]
  unfold Oper.wp execOp
  simp only [ho, resolve, invoke, builtin, Sem.run_bind, Sem.run_pure, Result.andThen_ok, List.map_toArray, List.map_cons, List.map_nil, hs, hx, hrun]
  exact h v' w' h2 h3

/-- An append onto bytes of the call's own, as a step of the walk, guarded or not. -/
theorem wpList_append_bytes {P : Program} {ops : Array Oper} {rest : List Oper} {o : Oper} {a : Act} {w : World} {Q : Exit → Act → World → Prop} (hgd : Region.wanted o (yielded ops a.tmps) = true) (s x : Operand) (t : TypeId)
    (ho : o.op = .call { callee := .builtin .append, args := #[s, x], argTypes := #[t, t] }) {e : TypeId} {i : TypeInfo} {z : Value} (ht : P.underlying t = some (.slice e)) (hi : P.info? e = some i) (hz : i.zero = some z)
    (hsize : i.size = 1) (hby : i.bytes = 1) (hzs : z.cells.size = 1) {base n₁ : Nat} {v sv : Value} {xs bs : List Nat} (hs : a.eval s = v) (hx : a.eval x = sv) (hown : OwnB w base e v xs) (hI : Bytes n₁ w sv bs)
    (hroom : xs.length + bs.length ≤ 140737488355328) (hbase : base ≤ w.heap.size)
    (h : ∀ v' w', OwnB w' base e v' (xs ++ bs) → w.grownBy w' v.ownBlock → wpList P ops Q rest (a.put o.dst v') w') : wpList P ops Q (o :: rest) a w := by
  obtain ⟨v', w', hrun, h2, h3, _⟩ := run_append_bytes (P := P) w o.type ht hi hz hsize hby hzs hown hI hroom hbase
  exact wpList_append_ran hgd s x t ho hs hx hrun (h v' w' h2 h3)

/-- Bytes that are laid as a literal. -/
theorem Bytes.lit (w : World) (t : TypeId) (cs : Array Value) (bs : List Nat) (n : Nat) (hn : bs.length = n) (hm : n ≤ 1048576) (hcs : cs.toList = vals bs) (h : ∀ x ∈ bs, x < 256) :
    Bytes (w.heap.size + 1) (w.alloc (.cells cs t)) (.slice (some ⟨w.heap.size, 0, none⟩) n n) bs := by
  subst hn
  have hsz : cs.size = bs.length * 1 := by
    have := congrArg List.length hcs
    rw [vals_length] at this
    simpa using this
  have h1 := World.ownsRow_lit (base := w.heap.size) (size := 1) (e := t) w cs bs.length (Nat.le_refl _) (by simp only [maxLen]; omega) hsz
  rw [hcs] at h1
  have := OwnB.bytes (base := w.heap.size) (e := t) (bs := bs) ⟨h1, h⟩
  rwa [World.size_alloc] at this

end Go.Proofs.Ytnjjjalenhbicaa.Law

/-
  A slice of slices of bytes that came in: opened; its bulk.
-/
namespace Go.Proofs.Ytnjjjalenhbicaa.Law
open Go Go.ChangeShapes Go.WideShapes Go.ChangeAt Go.RowKit Go.Deep

/-- The slice value reads as these rows of bytes, all in blocks below n₀. -/
def ByteRows (n₀ : Nat) (W : World) (sv : Value) (bss : List (List Nat)) : Prop :=
  ∃ (A : Option Addr) (cap : Nat), sv = .slice A bss.length cap ∧ bss.length ≤ cap ∧
    (0 < bss.length → ∃ b off, A = some ⟨b, off, none⟩ ∧ b < n₀ ∧ ∀ j, j < bss.length → ∃ v, W.cell? ⟨b, off + j, none⟩ = some v ∧ Bytes n₀ W v (bss.getD j []))

theorem ByteRows.form {n₀ : Nat} {W : World} {sv : Value} {bss : List (List Nat)} : ByteRows n₀ W sv bss → ∃ A cap, sv = .slice A bss.length cap
  | ⟨A, cap, e, _⟩ => ⟨A, cap, e⟩
theorem ByteRows.cells {n₀ len cap : Nat} {W : World} {A : Option Addr} {bss : List (List Nat)} (h : ByteRows n₀ W (.slice A len cap) bss) (hp : 0 < len) :
    ∃ b off, A = some ⟨b, off, none⟩ ∧ b < n₀ ∧ ∀ j, j < len → ∃ v, W.cell? ⟨b, off + j, none⟩ = some v ∧ Bytes n₀ W v (bss.getD j []) := by
  obtain ⟨A', cap', e, _, hc⟩ := h
  simp only [Value.slice.injEq] at e
  obtain ⟨rfl, rfl, rfl⟩ := e
  exact hc hp

theorem bulkAll_map {H : Type} (D : Nat → DataW H) (f : Nat → Nat) : ∀ rs : List Nat, (∀ r ∈ rs, f r ≤ Rows.uptoBulk (D r)) → (rs.map f).sum ≤ Rows.uptoBulkAll (rs.map D)
  | [], _ => by simp
  | r :: rs, h => by
    have h1 := h r (by simp)
    have h2 := bulkAll_map D f rs (fun x hx => h x (by simp [hx]))
    simp only [List.map_cons, List.sum_cons]
    rw [Rows.uptoBulkAll]
    omega

theorem intRow_bulk {H : Type} (A : Option Addr) (L C : Nat) (zs : List Int) (hz : zs.length = C) (hl : L ≤ C) (hA : A = none → C = 0) : L + 1 ≤ Rows.uptoBulk (intRow (H := H) .u8 A L zs) := by
  cases A with
  | none =>
    have := hA rfl
    show L + 1 ≤ Rows.uptoBulk .nil
    rw [Rows.uptoBulk]
    omega
  | some a =>
    show L + 1 ≤ Rows.uptoBulk (.slice (lits .u8 (zs.take L)) (lits .u8 (zs.drop L)))
    rw [Rows.uptoBulk]
    have := bulkAll_length (lits (H := H) .u8 (zs.take L)) (fun d hd => by
      simp only [lits, List.mem_map] at hd
      obtain ⟨z, _, rfl⟩ := hd
      rw [Rows.uptoBulk]
      · exact Nat.le_refl _
      · intro bytes hb
        cases hb)
    simp only [lits, List.length_map, List.length_take] at this
    simp only [lits]
    omega

/-- A slice of slices of bytes that came in: its rows; all of their bytes and they themselves are within its bulk. -/
theorem open_byte_rows {H : Type} {enc : TypeId × Value → H} {P : Program} {t s e : TypeId} {base : Nat} {W : World} {v : Value} {d : DataW H} {ps : List MemPlace} (ht : P.underlying t = some (.slice s)) (hs : P.underlying s = some (.slice e)) (he : P.underlying e = some (.int .u8))
    (cs1 : P.cellsOf s = 1) (ce : P.cellsOf e = 1) (hval : Value.okWide P W .any base t v) (h : DataW.Trod enc P W 0 (fun _ => true) true t v d ps) :
    ∃ bss : List (List Nat), ByteRows W.heap.size W v bss ∧ (bss.map List.length).sum + bss.length ≤ Rows.uptoBulk d := by
  obtain ⟨a1, len0, cap0, rfl⟩ := okWide_slice ht hval
  obtain ⟨fuel, hf⟩ := h
  rcases open_int_rows ht hs he cs1 ce hf with ⟨hcs, hx⟩ | ⟨a, len, cap, A, L, C, Z, hcs, _, hl, hm, hx, hrows⟩
  · simp [Value.cells] at hcs
    obtain ⟨rfl, rfl, rfl⟩ := hcs
    exact ⟨[], ⟨none, 0, rfl, by simp, by simp⟩, by simp⟩
  · simp [Value.cells] at hcs
    obtain ⟨rfl, rfl, rfl⟩ := hcs
    simp only [Prod.mk.injEq] at hx
    obtain ⟨rfl, rfl⟩ := hx
    have hlen : ((List.range len0).map fun r => ((Z r).take (L r)).map Int.toNat).length = len0 := by simp
    have hget : ∀ j, j < len0 → ((List.range len0).map fun r => ((Z r).take (L r)).map Int.toNat).getD j [] = ((Z j).take (L j)).map Int.toNat := by
      intro j hj; simp [List.getD, hj]
    refine ⟨(List.range len0).map fun r => ((Z r).take (L r)).map Int.toNat, ⟨some a, cap0, by rw [hlen], by rw [hlen]; exact hl, fun hpos => ?_⟩, ?_⟩
    · rw [hlen] at hpos ⊢
      obtain ⟨ab, ao, spot⟩ := a
      have hspot : spot = none := by simpa [Addr.add] using World.cell?_spot (hrows 0 (by omega)).1
      subst hspot
      have h0 := (hrows 0 (by omega)).1
      rw [Addr.add_lit] at h0
      refine ⟨ab, ao, rfl, block_lt_cell h0, fun j hj => ?_⟩
      obtain ⟨hc, hLC, _, hzl, hwz, hnil, hcell⟩ := hrows j (by omega)
      rw [Addr.add_lit] at hc
      rw [hget j hj]
      have hll : (((Z j).take (L j)).map Int.toNat).length = L j := by simp; omega
      refine ⟨_, hc, A j, C j, by rw [hll], by rw [hll]; exact hLC, hnil, ?_, fun hp => ?_⟩
      · intro x hx
        obtain ⟨z, hz', rfl⟩ := List.mem_map.1 hx
        have := u8_wf (hwz z (List.mem_of_mem_take hz'))
        omega
      · rw [hll] at hp ⊢
        cases hA : A j with
        | none => have := hnil hA; omega
        | some a' =>
          obtain ⟨_, hcs⟩ := hcell a' hA
          obtain ⟨bb, bo, sp⟩ := a'
          have hsp : sp = none := by simpa [Addr.add] using World.cell?_spot (hcs 0 (by omega))
          subst hsp
          have h00 := hcs 0 (by omega)
          rw [Addr.add_lit] at h00
          refine ⟨bb, bo, rfl, block_lt_cell h00, fun i hi => ?_⟩
          have hi' := hcs i (by omega)
          rw [Addr.add_lit] at hi'
          rw [hi']
          have hiz : i < (Z j).length := by omega
          have hb := u8_wf (hwz ((Z j).getD i 0) (by simp [List.getD, hiz]))
          have e1 : (((Z j).take (L j)).map Int.toNat).getD i 0 = ((Z j).getD i 0).toNat := by
            simp [List.getD, hi, hiz]
          rw [e1]
          congr 2
          omega
    · rw [hlen, List.map_map]
      have hb := bulkAll_map (fun r => intRow (H := H) .u8 (A r) (L r) (Z r)) (fun r => L r + 1) (List.range len0) (fun r hr => by
        obtain ⟨_, hLC, _, hzl, _, hnil, _⟩ := hrows r (by have := List.mem_range.1 hr; omega)
        exact intRow_bulk (A r) (L r) (C r) (Z r) hzl hLC hnil)
      have e2 : ∀ rs : List Nat, (∀ r ∈ rs, r < len0) → (rs.map (List.length ∘ fun r => ((Z r).take (L r)).map Int.toNat)).sum + rs.length = (rs.map fun r => L r + 1).sum := by
        intro rs
        induction rs with
        | nil => intro _; rfl
        | cons r rs ih =>
          intro hr
          have h1 := ih (fun x hx => hr x (by simp [hx]))
          obtain ⟨_, hLC, _, hzl, _⟩ := hrows r (by have := hr r (by simp); omega)
          have h2 : (((Z r).take (L r)).map Int.toNat).length = L r := by simp; omega
          simp only [List.map_cons, List.sum_cons, List.length_cons, Function.comp_apply] at h1 ⊢
          omega
      have h3 := e2 (List.range len0) (fun r hr => List.mem_range.1 hr)
      rw [List.length_range] at h3
      rw [h3, Rows.uptoBulk]
      omega

end Go.Proofs.Ytnjjjalenhbicaa.Law

/-
  A slice of slices of bytes that came in, with what its rows' lengths are at most; of whatever program.
-/
namespace Go.Proofs.Ytnjjjalenhbicaa.Law
open Go Go.ChangeShapes Go.WideShapes Go.ChangeAt Go.RowKit Go.Deep

theorem open_byte_rows_len {H : Type} {enc : TypeId × Value → H} {P : Program} {t s e : TypeId} {base : Nat} {W : World} {v : Value} {d : DataW H} {ps : List MemPlace} (ht : P.underlying t = some (.slice s)) (hs : P.underlying s = some (.slice e)) (he : P.underlying e = some (.int .u8))
    (cs1 : P.cellsOf s = 1) (ce : P.cellsOf e = 1) (hval : Value.okWide P W .any base t v) (h : DataW.Trod enc P W 0 (fun _ => true) true t v d ps) :
    ∃ bss : List (List Nat), ByteRows W.heap.size W v bss ∧ bss.length ≤ maxLen ∧ ∀ j, j < bss.length → (bss.getD j []).length ≤ maxLen := by
  obtain ⟨a1, len0, cap0, rfl⟩ := okWide_slice ht hval
  obtain ⟨fuel, hf⟩ := h
  rcases open_int_rows ht hs he cs1 ce hf with ⟨hcs, hx⟩ | ⟨a, len, cap, A, L, C, Z, hcs, _, hl, hm, hx, hrows⟩
  · simp [Value.cells] at hcs
    obtain ⟨rfl, rfl, rfl⟩ := hcs
    exact ⟨[], ⟨none, 0, rfl, by simp, by simp⟩, by simp [maxLen], by simp⟩
  · simp [Value.cells] at hcs
    obtain ⟨rfl, rfl, rfl⟩ := hcs
    have hlen : ((List.range len0).map fun r => ((Z r).take (L r)).map Int.toNat).length = len0 := by simp
    have hget : ∀ j, j < len0 → ((List.range len0).map fun r => ((Z r).take (L r)).map Int.toNat).getD j [] = ((Z j).take (L j)).map Int.toNat := by
      intro j hj; simp [List.getD, hj]
    refine ⟨(List.range len0).map fun r => ((Z r).take (L r)).map Int.toNat, ⟨some a, cap0, by rw [hlen], by rw [hlen]; exact hl, fun hpos => ?_⟩, by rw [hlen]; omega, fun j hj => ?_⟩
    · rw [hlen] at hpos ⊢
      obtain ⟨ab, ao, spot⟩ := a
      have hspot : spot = none := by simpa [Addr.add] using World.cell?_spot (hrows 0 (by omega)).1
      subst hspot
      have h0 := (hrows 0 (by omega)).1
      rw [Addr.add_lit] at h0
      refine ⟨ab, ao, rfl, block_lt_cell h0, fun j hj => ?_⟩
      obtain ⟨hc, hLC, _, hzl, hwz, hnil, hcell⟩ := hrows j (by omega)
      rw [Addr.add_lit] at hc
      rw [hget j hj]
      have hll : (((Z j).take (L j)).map Int.toNat).length = L j := by simp; omega
      refine ⟨_, hc, A j, C j, by rw [hll], by rw [hll]; exact hLC, hnil, ?_, fun hp => ?_⟩
      · intro x hx
        obtain ⟨z, hz', rfl⟩ := List.mem_map.1 hx
        have := u8_wf (hwz z (List.mem_of_mem_take hz'))
        omega
      · rw [hll] at hp ⊢
        cases hA : A j with
        | none => have := hnil hA; omega
        | some a' =>
          obtain ⟨_, hcs⟩ := hcell a' hA
          obtain ⟨bb, bo, sp⟩ := a'
          have hsp : sp = none := by simpa [Addr.add] using World.cell?_spot (hcs 0 (by omega))
          subst hsp
          have h00 := hcs 0 (by omega)
          rw [Addr.add_lit] at h00
          refine ⟨bb, bo, rfl, block_lt_cell h00, fun i hi => ?_⟩
          have hi' := hcs i (by omega)
          rw [Addr.add_lit] at hi'
          rw [hi']
          have hiz : i < (Z j).length := by omega
          have hb := u8_wf (hwz ((Z j).getD i 0) (by simp [List.getD, hiz]))
          have e1 : (((Z j).take (L j)).map Int.toNat).getD i 0 = ((Z j).getD i 0).toNat := by
            simp [List.getD, hi, hiz]
          rw [e1]
          congr 2
          omega
    · rw [hlen] at hj
      rw [hget j hj]
      obtain ⟨_, hLC, hCm, hzl, _⟩ := hrows j (by omega)
      simp
      omega

end Go.Proofs.Ytnjjjalenhbicaa.Law
