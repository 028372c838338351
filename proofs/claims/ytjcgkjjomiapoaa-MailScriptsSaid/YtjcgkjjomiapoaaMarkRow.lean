/-
  Bytes in a block of their own, from its front, whose mark, if there is one, stands behind the block's end (what '[]byte(s)' makes); one byte more behind them. Of whatever program.
-/
import Derived.Test.YtjcgkjjomiapoaaTold
namespace Go.Proofs.Ytjcgkjjomiapoaa.Mark
open Go Go.RowKit Go.Proofs.Ytjcgkjjomiapoaa.Law

def RowM (W : World) (base : Nat) (e : TypeId) (v : Value) (n : Nat) (xs : List Value) : Prop :=
  xs.length = n ∧ ((v = .slice none 0 0 ∧ n = 0) ∨
    ∃ g cap cur fz, v = .slice (some ⟨g, 0, none⟩) n cap ∧ base ≤ g ∧ W.heap[g]? = some (.cells cur e fz) ∧ (fz = (0, 0) ∨ cur.size ≤ fz.1) ∧ n ≤ cap ∧ cap ≤ maxLen ∧ cur.size = cap ∧ cur.toList.take n = xs)
def OwnM (W : World) (base : Nat) (e : TypeId) (sv : Value) (bs : List Nat) : Prop := RowM W base e sv bs.length (vals bs) ∧ ∀ x ∈ bs, x < 256

theorem RowM.lt {W : World} {base : Nat} {e : TypeId} {v : Value} {n : Nat} {xs : List Value} (h : RowM W base e v n xs) : ∀ k, v.ownBlock = some k → base ≤ k ∧ k < W.heap.size := by
  intro k hk
  rcases h.2 with ⟨rfl, _⟩ | ⟨g, cap, cur, fz, rfl, hb, hg, _⟩
  · cases hk
  · simp only [Value.ownBlock, Option.some.injEq] at hk
    subst hk
    exact ⟨hb, (Array.getElem?_eq_some_iff.1 hg).1⟩
theorem RowM.kept {W W' : World} {row : Option Nat} {base : Nat} {e : TypeId} {v : Value} {n : Nat} {xs : List Value} (h : RowM W base e v n xs) (hg : W.grownBy W' row) (hne : v.ownBlock = none ∨ v.ownBlock ≠ row) : RowM W' base e v n xs := by
  refine ⟨h.1, ?_⟩
  rcases h.2 with hn | ⟨g, cap, cur, fz, rfl, hb, hgg, rest⟩
  · exact .inl hn
  · refine .inr ⟨g, cap, cur, fz, rfl, hb, ?_, rest⟩
    rw [hg.block g (Array.getElem?_eq_some_iff.1 hgg).1 (by simpa [Value.ownBlock] using hne)]
    exact hgg
theorem OwnM.kept {W W' : World} {row : Option Nat} {base : Nat} {e : TypeId} {v : Value} {bs : List Nat} (h : OwnM W base e v bs) (hg : W.grownBy W' row) (hne : v.ownBlock = none ∨ v.ownBlock ≠ row) : OwnM W' base e v bs := ⟨h.1.kept hg hne, h.2⟩
theorem OwnM.alloc {W : World} {base : Nat} {e : TypeId} {v : Value} {bs : List Nat} (h : OwnM W base e v bs) (o : Obj) : OwnM (W.alloc o) base e v bs :=
  h.kept (World.grownBy_alloc W o none) (by cases hv : v.ownBlock <;> simp)
theorem OwnM.drew {W : World} {base : Nat} {e : TypeId} {v : Value} {bs : List Nat} (h : OwnM W base e v bs) : OwnM W.drew base e v bs := h
theorem OwnM.below {W W' : World} {base : Nat} {e : TypeId} {v : Value} {bs : List Nat} (h : OwnM W base e v bs) (hb : Below W.heap.size W W') : OwnM W' base e v bs :=
  h.kept (grown_of_below hb) (by cases hv : v.ownBlock <;> simp)
theorem OwnM.other {W : World} {base : Nat} {e : TypeId} {v : Value} {bs : List Nat} (h : OwnM W base e v bs) {k : Nat} {o : Obj} (hk : W.heap[k]? = some o) (ho : ∀ cur fz, o ≠ .cells cur e fz) : v.ownBlock = none ∨ v.ownBlock ≠ some k := by
  rcases h.1.2 with ⟨rfl, _⟩ | ⟨g, cap, cur, fz, rfl, _, hgb, _⟩
  · exact .inl rfl
  · refine .inr fun e' => ?_
    obtain rfl : g = k := by simpa [Value.ownBlock] using e'
    rw [hgb] at hk
    exact ho _ _ (Option.some.inj hk).symm
theorem OwnM.cells_ofA {W : World} {base g : Nat} {e e' : TypeId} {v : Value} {bs : List Nat} {cur : Array Value} {fz : Nat × Nat} (h : OwnM W base e v bs) (hg : W.heap[g]? = some (.cells cur e' fz)) (hne : e ≠ e') : v.ownBlock = none ∨ v.ownBlock ≠ some g :=
  h.other hg fun c f e'' => by
    injection e'' with _ h2 _
    exact hne h2.symm
theorem OwnM.of_own {W : World} {base : Nat} {e : TypeId} {v : Value} {bs : List Nat} (h : OwnB W base e v bs) : OwnM W base e v bs := by
  refine ⟨⟨vals_length bs, ?_⟩, h.2⟩
  rcases h.1.2 with hn | ⟨g, cap, cur, rfl, hb, hg, hn, hc, hs, ht⟩
  · exact .inl hn
  · exact .inr ⟨g, cap, cur, (0, 0), rfl, hb, hg, .inl rfl, hn, hc, by omega, by simpa using ht⟩
theorem OwnM.lower {W : World} {base b' : Nat} {e : TypeId} {v : Value} {bs : List Nat} (h : OwnM W base e v bs) (hb : b' ≤ base) : OwnM W b' e v bs := by
  refine ⟨⟨h.1.1, ?_⟩, h.2⟩
  rcases h.1.2 with hn | ⟨g, cap, cur, fz, rfl, h1, h2⟩
  · exact .inl hn
  · exact .inr ⟨g, cap, cur, fz, rfl, by omega, h2⟩
theorem get_of_take {cur : Array Value} {bs : List Nat} (h : cur.toList.take bs.length = vals bs) {j : Nat} (hj : j < bs.length) : cur[j]? = some (.int .u8 (bs.getD j 0 : Nat)) := by
  rw [← vals_get bs j hj, ← h, List.getElem?_take, if_pos hj]
  simp
theorem OwnM.bytes {W : World} {base : Nat} {e : TypeId} {v : Value} {bs : List Nat} (h : OwnM W base e v bs) : Bytes W.heap.size W v bs := by
  have hlt := h.1.lt
  obtain ⟨h, h256⟩ := h
  rcases h.2 with ⟨rfl, hz⟩ | ⟨g, cap, cur, fz, rfl, hb, hg, hf, hn, hcm, hcs, ht⟩
  · exact ⟨none, 0, by rw [hz], by omega, fun _ => rfl, h256, fun hp => absurd hp (by omega)⟩
  · refine ⟨_, cap, rfl, hn, (fun h => by cases h), h256, fun _ => ⟨g, 0, rfl, (hlt g rfl).2, fun j hj => ?_⟩⟩
    simp only [World.cell?, hg, Nat.zero_add]
    exact get_of_take ht hj
theorem OwnM.form {W : World} {base : Nat} {e : TypeId} {sv : Value} {bs : List Nat} (h : OwnM W base e sv bs) (hp : 0 < bs.length) :
    ∃ g cap, sv = .slice (some ⟨g, 0, none⟩) bs.length cap ∧ base ≤ g ∧ g < W.heap.size := by
  have hlt := h.1.lt
  rcases h.1.2 with ⟨_, hz⟩ | ⟨g, cap, cur, fz, rfl, hb, _⟩
  · omega
  · exact ⟨g, cap, rfl, hb, (hlt g rfl).2⟩
theorem OwnM.cell {W : World} {base g len cap : Nat} {e : TypeId} {bs : List Nat} (h : OwnM W base e (.slice (some ⟨g, 0, none⟩) len cap) bs) (hl : bs.length = len) (j : Nat) (hj : j < len) :
    W.cell? ⟨g, j, none⟩ = some (.int .u8 (bs.getD j 0 : Nat)) ∧ W.frozen? ⟨g, j, none⟩ = false := by
  subst hl
  rcases h.1.2 with ⟨hv, _⟩ | ⟨g', cap', cur, fz, hv, hb, hg, hf, hn, hcm, hcs, ht⟩
  · cases hv
  · simp only [Value.slice.injEq, Option.some.injEq, Addr.mk.injEq, and_true, true_and] at hv
    obtain ⟨rfl, rfl⟩ := hv
    constructor
    · simp only [World.cell?, hg]
      exact get_of_take ht hj
    · simp only [World.frozen?, hg]
      rcases hf with rfl | hf
      · simp
      · simp; omega
theorem OwnM.store {W : World} {base g len cap : Nat} {e : TypeId} {bs : List Nat} (h : OwnM W base e (.slice (some ⟨g, 0, none⟩) len cap) bs) (hl : bs.length = len) (j x : Nat) (hx : x < 256) :
    OwnM (W.setCell ⟨g, j, none⟩ (.int .u8 (x : Nat))) base e (.slice (some ⟨g, 0, none⟩) len cap) (bs.set j x) := by
  subst hl
  refine ⟨⟨vals_length _, ?_⟩, fun y hy => ?_⟩
  · rcases h.1.2 with ⟨hv, _⟩ | ⟨g', cap', cur, fz, hv, hb, hg, hf, hn, hcm, hcs, ht⟩
    · cases hv
    · simp only [Value.slice.injEq, Option.some.injEq, Addr.mk.injEq, and_true, true_and] at hv
      obtain ⟨rfl, rfl⟩ := hv
      refine .inr ⟨g, cap, cur.setIfInBounds j (.int .u8 (x : Nat)), fz, by rw [List.length_set], hb, ?_, by simpa using hf, by rw [List.length_set]; exact hn, hcm, by simpa using hcs, ?_⟩
      · simp [World.setCell, Array.getElem?_modify, hg]
      · rw [List.length_set, Array.toList_setIfInBounds, List.take_set, ht]
        simp [vals, List.map_set]
  · rcases List.mem_or_eq_of_mem_set hy with h1 | rfl
    · exact h.2 y h1
    · exact hx

theorem grownBy_setM (W : World) (b i : Nat) (v : Value) : W.grownBy (W.setCell ⟨b, i, none⟩ v) (some b) :=
  ⟨rfl, rfl, rfl, by simp [World.setCell], fun k _ hk => Below.heap_setCell _ _ _ k (fun e => hk (by rw [e]))⟩

/-- One byte is put into the place behind a slice. -/
theorem run_append_one_room {P : Program} (w : World) {t e : TypeId} (ty : TypeId) {i : TypeInfo} (ht : P.underlying t = some (.slice e)) (hi : P.info? e = some i) (hsize : i.size = 1) (g n cap : Nat) (cur : Array Value) (fz : Nat × Nat)
    (hg : w.heap[g]? = some (.cells cur e fz)) (hf : fz = (0, 0) ∨ cur.size ≤ fz.1) (a : Addr) (c x : Nat) (hx : w.cell? a = some (.int .u8 (x : Nat))) (hroom : n + 1 ≤ cap) (hfit : n < cur.size) :
    (Builtin.append_ #[t, t] ty #[.slice (some ⟨g, 0, none⟩) n cap, .slice (some a) 1 c]).run P w = .ok (.slice (some ⟨g, 0, none⟩) (n + 1) cap) (w.setCell ⟨g, n, none⟩ (.int .u8 (x : Nat))) := by
  have hfc := run_firstCells_some (P := P) w i.size 1 a 1 c [.int .u8 (x : Nat)] (by simp [hsize]) (fun j u hu => by
    match j, hu with
    | 0, hu =>
      simp only [List.getElem?_cons_zero, Option.some.injEq] at hu
      subst hu
      have : a.add 0 = a := by
        unfold Addr.add
        cases a with
        | mk b o s => cases s <;> simp
      rw [this]; exact hx
    | j + 1, hu => simp at hu)
  have hcell : w.cell? ⟨g, n, none⟩ = some cur[n] := by simp [World.cell?, hg, hfit]
  have hfro : w.frozen? ⟨g, n, none⟩ = false := by
    simp only [World.frozen?, hg]
    rcases hf with rfl | hf
    · simp
    · simp; omega
  have hst : (storeCells ((⟨g, 0, none⟩ : Addr).add (n * i.size)) [.int .u8 (x : Nat)] 0).run P w = .ok () (w.setCell ⟨g, n, none⟩ (.int .u8 (x : Nat))) := by
    have h0 : (⟨g, 0, none⟩ : Addr).add (n * i.size) = ⟨g, n, none⟩ := by rw [Addr.add_lit, hsize]; simp
    have h1 : (⟨g, n, none⟩ : Addr).add 0 = ⟨g, n, none⟩ := by rw [Addr.add_lit]; rfl
    rw [h0]
    simp only [storeCells, Sem.run_bind, h1]
    rw [run_store P w _ _ _ rfl, hcell]
    simp [hfro]
  simp [Builtin.append_, run_underlying ht, sizeOf, typeInfo, hi, Builtin.lenOf, hroom, hfc, hst]

/-- One byte behind bytes of the call's own: where the new slice lies, and that what lay at the front of the old block lies there yet. -/
theorem run_append_one {P : Program} (w : World) {t e : TypeId} (ty : TypeId) {i : TypeInfo} {z : Value} (ht : P.underlying t = some (.slice e)) (hi : P.info? e = some i) (hz : i.zero = some z)
    (hsize : i.size = 1) (hby : i.bytes = 1) (hzs : z.cells.size = 1) {base n₁ : Nat} {v : Value} {a : Addr} {c x : Nat} {xs : List Nat} (hown : OwnM w base e v xs) (hI : Bytes n₁ w (.slice (some a) 1 c) [x])
    (hroom : xs.length + 1 ≤ 140737488355328) (hbase : base ≤ w.heap.size) :
    ∃ v' w', (Builtin.append_ #[t, t] ty #[v, .slice (some a) 1 c]).run P w = .ok v' w' ∧ OwnM w' base e v' (xs ++ [x]) ∧ w.grownBy w' v.ownBlock ∧ (v'.ownBlock = v.ownBlock ∨ v'.ownBlock = some w.heap.size) ∧
      ∀ base' y ys, OwnM w base' e y ys → ys.length ≤ xs.length → y.ownBlock = v.ownBlock → OwnM w' base' e y ys := by
  have hx256 : x < 256 := hI.lt x (by simp)
  have hall : ∀ y ∈ xs ++ [x], y < 256 := fun y hy => (List.mem_append.1 hy).elim (hown.2 y) (fun h => by simp only [List.mem_singleton] at h; omega)
  have hl1 : (xs ++ [x]).length = xs.length + 1 := by rw [List.length_append]; rfl
  have hcell : w.cell? a = some (.int .u8 (x : Nat)) := by
    obtain ⟨A, cap, e1, _, _, _, hc⟩ := hI
    obtain ⟨b, off, e2, _, h6⟩ := hc (by simp)
    injection e1 with e3 _ _
    rw [← e3] at e2
    obtain rfl : a = ⟨b, off, none⟩ := by simpa using e2
    have h7 := h6 0 (by simp)
    simpa [List.getD] using h7
  have hcell' : ∀ j u, ([Value.int .u8 (x : Nat)] : List Value)[j]? = some u → w.cell? (a.add j) = some u := by
    intro j u hu
    match j, hu with
    | 0, hu =>
      simp only [List.getElem?_cons_zero, Option.some.injEq] at hu
      subst hu
      have : a.add 0 = a := by
        unfold Addr.add
        cases a with
        | mk b o s => cases s <;> simp
      rw [this]; exact hcell
    | j + 1, hu => simp at hu
  have keep : ∀ (o : Obj) base' y ys, OwnM w base' e y ys → OwnM (w.drew.alloc o) base' e y ys := fun o base' y ys hy => hy.drew.alloc o
  rcases hown.1.2 with ⟨rfl, h0⟩ | ⟨g, cap, cur, fz, rfl, hb, hg, hf, hn, hcm, hcs, htk⟩
  · obtain rfl : xs = [] := List.eq_nil_of_length_eq_zero h0
    have hr := run_append_nil (P := P) w t ty e i z ht hi hz a 1 c [.int .u8 (x : Nat)] (by simp [hsize]) hcell' (by omega) (by omega) (by omega)
    have hge := grownCap_ge w 1 0 e
    refine ⟨_, _, hr, ⟨⟨vals_length _, .inr ⟨w.heap.size, _, _, (0, 0), rfl, hbase, heap_alloc_new w.drew _, .inl rfl, by simpa using hge, grownCap_le_maxLen w 1 0 e (by simp [maxLen]), ?_, ?_⟩⟩, hall⟩, ⟨rfl, rfl, rfl, by simp, fun k hk _ => Below.heap_alloc w.drew _ k hk⟩, .inr rfl, fun base' y ys hy _ _ => keep _ _ _ _ hy⟩
    · simp only [Array.size_append, List.size_toArray, size_zeroCells, hzs, List.length_cons, List.length_nil]
      omega
    · simp [vals]
  · by_cases hr : xs.length + 1 ≤ cap
    · have hrun := run_append_one_room (P := P) w ty ht hi hsize g xs.length cap cur fz hg hf a c x hcell hr (by omega)
      have hg' : (w.setCell ⟨g, xs.length, none⟩ (.int .u8 (x : Nat))).heap[g]? = some (.cells (cur.setIfInBounds xs.length (.int .u8 (x : Nat))) e fz) := by
        simp [World.setCell, Array.getElem?_modify, hg]
      have hf' : fz = (0, 0) ∨ (cur.setIfInBounds xs.length (.int .u8 (x : Nat))).size ≤ fz.1 := by simpa using hf
      refine ⟨_, _, hrun, ⟨⟨vals_length _, .inr ⟨g, cap, _, fz, by rw [hl1], hb, hg', hf', by rw [hl1]; exact hr, hcm, by simpa using hcs, ?_⟩⟩, hall⟩, grownBy_setM w g _ _, .inl rfl, fun base' y ys hy hle he => ?_⟩
      · rw [hl1, Array.toList_setIfInBounds, vals_append]
        have hlen : xs.length < cur.toList.length := by have := @Array.length_toList _ cur; omega
        rw [List.take_succ_eq_append_getElem (by rw [List.length_set]; exact hlen), List.take_set, List.getElem_set_self, htk]
        congr 1
        have : (vals xs).length = xs.length := vals_length xs
        rw [List.set_eq_of_length_le (by rw [this]; exact Nat.le_refl _)]
      · rcases hy.1.2 with ⟨rfl, hy0⟩ | ⟨g', cap', cur', fz', rfl, hb', hgy, hfy, hny, hcmy, hcsy, hty⟩
        · exact ⟨⟨vals_length _, .inl ⟨rfl, hy0⟩⟩, hy.2⟩
        · obtain rfl : g' = g := by simpa [Value.ownBlock] using he
          rw [hg] at hgy
          simp only [Option.some.injEq, Obj.cells.injEq, true_and] at hgy
          obtain ⟨rfl, rfl⟩ := hgy
          refine ⟨⟨vals_length _, .inr ⟨g', cap', _, fz, rfl, hb', hg', hf', hny, hcmy, by simpa using hcsy, ?_⟩⟩, hy.2⟩
          rw [Array.toList_setIfInBounds, List.take_set_of_le (by omega), hty]
    · have holds : ∀ j u, (vals xs)[j]? = some u → w.cell? ((⟨g, 0, none⟩ : Addr).add j) = some u := by
        intro j u hu
        have hj : j < xs.length := by have := (List.getElem?_eq_some_iff.1 hu).1; rwa [vals_length] at this
        rw [Addr.add_lit, Nat.zero_add]
        rw [vals_get xs j hj] at hu
        rw [← hu]
        simp only [World.cell?, hg]
        exact get_of_take htk hj
      have hrun := run_append_grow (P := P) w t ty e i z ht hi hz ⟨g, 0, none⟩ xs.length cap (vals xs) (by rw [vals_length, hsize, Nat.mul_one]) holds a 1 c [.int .u8 (x : Nat)] (by simp [hsize]) hcell' (by omega) (by omega) (growslice_fits (by omega) (by rw [hby]; omega))
      have hge := grownCap_ge w (xs.length + 1) cap e
      refine ⟨_, _, hrun, ⟨⟨vals_length _, .inr ⟨w.heap.size, _, _, (0, 0), by rw [hl1], hbase, heap_alloc_new w.drew _, .inl rfl, by rw [hl1]; exact hge, grownCap_le_maxLen w (xs.length + 1) cap e (by simp only [maxLen]; omega), ?_, ?_⟩⟩, hall⟩, ⟨rfl, rfl, rfl, by simp, fun k hk _ => Below.heap_alloc w.drew _ k hk⟩, .inr rfl, fun base' y ys hy _ _ => keep _ _ _ _ hy⟩
      · simp only [Array.size_append, List.size_toArray, size_zeroCells, hzs, vals_length, List.length_cons, List.length_nil]
        omega
      · simp only [Array.toList_append, List.append_assoc]
        rw [← List.append_assoc, hl1, vals_append]
        have : xs.length + 1 = (vals xs ++ [Value.int .u8 (x : Nat)]).length := by rw [List.length_append, vals_length]; rfl
        rw [this]
        exact List.take_left

/-- .. as a step of the walk. -/
theorem wpList_append_one {P : Program} {ops : Array Oper} {rest : List Oper} {o : Oper} {a : Act} {w : World} {Q : Exit → Act → World → Prop} (hgd : Region.wanted o (yielded ops a.tmps) = true) (s x : Operand) (t : TypeId)
    (ho : o.op = .call { callee := .builtin .append, args := #[s, x], argTypes := #[t, t] }) {e : TypeId} {i : TypeInfo} {z : Value} (ht : P.underlying t = some (.slice e)) (hi : P.info? e = some i) (hz : i.zero = some z)
    (hsize : i.size = 1) (hby : i.bytes = 1) (hzs : z.cells.size = 1) {base n₁ : Nat} {v : Value} {A : Addr} {c y : Nat} {xs : List Nat} (hs : a.eval s = v) (hx : a.eval x = .slice (some A) 1 c) (hown : OwnM w base e v xs) (hI : Bytes n₁ w (.slice (some A) 1 c) [y])
    (hroom : xs.length + 1 ≤ 140737488355328) (hbase : base ≤ w.heap.size)
    (h : ∀ v' w', OwnM w' base e v' (xs ++ [y]) → w.grownBy w' v.ownBlock → (v'.ownBlock = v.ownBlock ∨ v'.ownBlock = some w.heap.size) → (∀ base' u us, OwnM w base' e u us → us.length ≤ xs.length → u.ownBlock = v.ownBlock → OwnM w' base' e u us) → wpList P ops Q rest (a.put o.dst v') w') :
    wpList P ops Q (o :: rest) a w := by
  obtain ⟨v', w', hrun, h2, h3, h4, h5⟩ := run_append_one (P := P) w o.type ht hi hz hsize hby hzs hown hI hroom hbase
  exact wpList_append_ran hgd s x t ho hs hx hrun (h v' w' h2 h3 h4 h5)

end Go.Proofs.Ytjcgkjjomiapoaa.Mark
