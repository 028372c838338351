/-
  Rows, numbers and places that came in.
-/
import Derived.Test.YtlcmnemneghohaaDedupLeaf
import Derived.OpenShut
namespace Go.Proofs.Ytlcmnemneghohaa.Dedup
open Go Go.RowKit Go.ChangeShapes Go.WideShapes Go.Deep Go.Proofs.Ytlcmnemneghohaa.Law

/-- A number of 64 bits. -/
def i64 (z : Int) : Prop := -9223372036854775808 ≤ z ∧ z ≤ 9223372036854775807
def wfRw (x : Rw) : Prop := i64 x.p ∧ i64 x.q ∧ i64 x.n

section
variable {H : Type} {enc : TypeId × Value → H} {w : World}
set_option maxRecDepth 100000 in
theorem open_rows1 {fuel : Nat} {a : Addr} {cs' : List Value} {y : DataW H × List MemPlace} (hc : w.cells? 0 a 3 = some cs')
    (h : DataW.trod enc Try.prog w 0 (fun _ => true) true fuel 42 cs' = some y) :
    ∃ x : Rw, a.spot = none ∧ Cells3 pV qV nV w a.block a.off x ∧ wfRw x ∧ a.block < w.heap.size := by
  obtain ⟨xs, n', _, hy, hcl, hxl, hf⟩ := DataW.trod_struct Try.underlying42 h
  obtain ⟨_, hlen, hat⟩ := World.cells?_some hc
  clear hy
  match cs', hlen with
  | [q0, q1, q2], _ =>
    match xs, hxl with
    | [y0, y1, y2], _ =>
      have ki : Try.prog.cellsOf 3 = 1 := by kernel_rfl
      have f0 : DataW.trod enc Try.prog w 0 (fun _ => true) true n' 3 [q0] = some y0 := by have := hf 0 _ rfl; simpa [ki] using this
      have f1 : DataW.trod enc Try.prog w 0 (fun _ => true) true n' 3 [q1] = some y1 := by have := hf 1 _ rfl; simpa [ki] using this
      have f2 : DataW.trod enc Try.prog w 0 (fun _ => true) true n' 3 [q2] = some y2 := by have := hf 2 _ rfl; simpa [ki] using this
      obtain ⟨z0, e0, -, wf0⟩ := DataW.trod_int Try.underlying3 f0
      obtain ⟨z1, e1, -, wf1⟩ := DataW.trod_int Try.underlying3 f1
      obtain ⟨z2, e2, -, wf2⟩ := DataW.trod_int Try.underlying3 f2
      obtain rfl : q0 = .int .i64 z0 := by simpa using e0
      obtain rfl : q1 = .int .i64 z1 := by simpa using e1
      obtain rfl : q2 = .int .i64 z2 := by simpa using e2
      have c0 := hat 0 (by omega)
      have c1 := hat 1 (by omega)
      have c2 := hat 2 (by omega)
      obtain ⟨ab, ao, sp⟩ := a
      have hsp : sp = none := by
        have h := World.cell?_spot (c0.trans (rfl : _ = some (Value.int .i64 z0)))
        simpa [Addr.add] using h
      subst hsp
      rw [Addr.add_lit] at c0 c1 c2
      exact ⟨⟨z0, z1, z2⟩, rfl, ⟨c0, c1, c2⟩, ⟨i64_wf wf0, i64_wf wf1, i64_wf wf2⟩, block_lt_cell c0⟩
set_option maxRecDepth 100000 in
theorem open_rows {base : Nat} {v : Value} {d : DataW H} {ps : List MemPlace} (hval : Value.okWide Try.prog w .any base 22 v) (h : DataW.Trod enc Try.prog w 0 (fun _ => true) true 22 v d ps) (hw : (d.weights Try.prog 22).all (· ≤ reachBytes) = true) :
    ∃ l : List Rw, OldW w.heap.size w v l ∧ (∀ x ∈ l, wfRw x) ∧ l.length * 24 ≤ 140737488351232 := by
  obtain ⟨a1, len1, cap1, rfl⟩ := okWide_slice Try.underlying22 hval
  obtain ⟨fuel, hf⟩ := h
  have hw' : ∀ x ∈ d.weights Try.prog 22, x ≤ reachBytes := fun x hx => by simpa using List.all_eq_true.1 hw x hx
  rcases open_slice Try.underlying22 hf with ⟨hcs, hx⟩ | ⟨a, len, cap, m, n, D, Pl, hcs, hb, hl, hm, hmm, hx, hi⟩
  · simp [Value.cells] at hcs
    obtain ⟨rfl, rfl, rfl⟩ := hcs
    exact ⟨[], ThreeAt.nil _ _, (fun _ h => by cases h), by simp⟩
  · simp [Value.cells] at hcs
    obtain ⟨rfl, rfl, rfl⟩ := hcs
    obtain rfl : m = cap1 := by simpa using hmm
    have hxd := congrArg Prod.fst hx
    simp only at hxd
    subst hxd
    have hC : Try.prog.cellsOf 42 = 3 := by kernel_rfl
    have hBy : Try.prog.bytesOf 42 = 24 := by kernel_rfl
    have hreach : reachBytes = 140737488351232 := rfl
    have hwlen : m * 24 ≤ 140737488351232 := by
      have := hw' ((((List.range len1).map D).length + ((List.range (m - len1)).map fun j => D (len1 + j)).length) * Try.prog.bytesOf 42) (by rw [DataW.weights, Try.underlying22]; exact List.mem_cons_self)
      simp only [List.length_map, List.length_range, hBy, hreach] at this
      omega
    rw [hC] at hi
    have hone : ∀ i, i < len1 → ∃ x : Rw, a.spot = none ∧ Cells3 pV qV nV w a.block (a.off + i * 3) x ∧ wfRw x ∧ a.block < w.heap.size := by
      intro i hil
      obtain ⟨cs', hc, ht⟩ := hi i (by omega)
      obtain ⟨s, _, h2, h3⟩ := open_rows1 hc ht
      obtain ⟨cs0, hc0, ht0⟩ := hi 0 (by omega)
      obtain ⟨_, h0, _⟩ := open_rows1 hc0 ht0
      obtain ⟨ab, ao, sp⟩ := a
      have hsp : sp = none := by simpa [Addr.add] using h0
      subst hsp
      rw [Addr.add_lit] at h2 h3
      exact ⟨s, rfl, h2, h3⟩
    obtain ⟨X, hX⟩ := Classical.axiomOfChoice (r := fun (i : Nat) (s : Rw) => i < len1 → a.spot = none ∧ Cells3 pV qV nV w a.block (a.off + i * 3) s ∧ wfRw s ∧ a.block < w.heap.size) (fun i => by
      by_cases h : i < len1
      · obtain ⟨x, hx⟩ := hone i h
        exact ⟨x, fun _ => hx⟩
      · exact ⟨⟨0, 0, 0⟩, fun h' => absurd h' h⟩)
    have hget : ∀ (j : Nat) (x : Rw), ((List.range len1).map X)[j]? = some x → j < len1 ∧ X j = x := by
      intro j x hx
      rw [List.getElem?_map] at hx
      by_cases hj : j < len1
      · rw [List.getElem?_range hj] at hx
        exact ⟨hj, by simpa using hx⟩
      · rw [List.getElem?_eq_none (by simp; omega)] at hx
        simp at hx
    refine ⟨(List.range len1).map X, ⟨some a, m, by simp, by simpa using hl, (fun h => by cases h), fun hp => ?_⟩, fun y hy => ?_, by simp; omega⟩
    · have hp' : 0 < len1 := by simpa using hp
      obtain ⟨hs, _, _, hb⟩ := hX 0 hp'
      obtain ⟨ab, ao, spot⟩ := a
      obtain rfl : spot = none := hs
      refine ⟨ab, ao, rfl, hb, fun j x hx => ?_⟩
      obtain ⟨hj, rfl⟩ := hget j x hx
      exact (hX j hj).2.1
    · obtain ⟨j, hj, rfl⟩ := List.mem_map.1 hy
      exact (hX j (List.mem_range.1 hj)).2.2.1
theorem open_int {base : Nat} {v : Value} {d : DataW H} {ps : List MemPlace} (hval : Value.okWide Try.prog w .any base 3 v) (h : DataW.Trod enc Try.prog w 0 (fun _ => true) true 3 v d ps) : ∃ z, v = .int .i64 z ∧ i64 z := by
  obtain ⟨z, rfl⟩ := okWide_int Try.underlying3 hval
  obtain ⟨fuel, hf⟩ := h
  obtain ⟨z', e, -, wf⟩ := DataW.trod_int Try.underlying3 hf
  obtain rfl : z = z' := by simpa [Value.cells] using e
  exact ⟨z, rfl, i64_wf wf⟩
set_option maxRecDepth 100000 in
/-- A place that came in: two numbers. -/
theorem open_place {base : Nat} {v : Value} {d : DataW H} {ps : List MemPlace} (hval : Value.okWide Try.prog w .any base 23 v) (h : DataW.Trod enc Try.prog w 0 (fun _ => true) true 23 v d ps) : ∃ a b, v = .agg #[.int .i64 a, .int .i64 b] := by
  have hC : Try.prog.cellsOf 23 = 2 := by kernel_rfl
  have ki : Try.prog.cellsOf 3 = 1 := by kernel_rfl
  obtain ⟨cs, rfl, hsz, _⟩ : ∃ cs, v = .agg cs ∧ cs.size = Try.prog.cellsOf 23 ∧ Row.okWide Try.prog w .any base 23 cs := by
    simpa [Value.okWide, Try.underlying23] using hval
  obtain ⟨l⟩ := cs
  match l, hsz.trans hC with
  | [q0, q1], _ =>
    obtain ⟨fuel, hf⟩ := h
    obtain ⟨gs, n2, _, _, _, glen, gg⟩ := DataW.trod_array Try.underlying23 hf
    match gs, glen with
    | [g0, g1], _ =>
      have b0 : DataW.trod enc Try.prog w 0 (fun _ => true) true n2 3 [q0] = some g0 := by have := gg 0 (by decide); simpa [Value.cells, ki] using this
      have b1 : DataW.trod enc Try.prog w 0 (fun _ => true) true n2 3 [q1] = some g1 := by have := gg 1 (by decide); simpa [Value.cells, ki] using this
      obtain ⟨z0, e0, -, _⟩ := DataW.trod_int Try.underlying3 b0
      obtain ⟨z1, e1, -, _⟩ := DataW.trod_int Try.underlying3 b1
      obtain rfl : q0 = .int .i64 z0 := by simpa using e0
      obtain rfl : q1 = .int .i64 z1 := by simpa using e1
      exact ⟨z0, z1, rfl⟩
set_option maxRecDepth 100000 in
/-- Another place, and a number. -/
theorem open_other {base : Nat} {v : Value} {d : DataW H} {ps : List MemPlace} (hval : Value.okWide Try.prog w .any base 39 v) (h : DataW.Trod enc Try.prog w 0 (fun _ => true) true 39 v d ps) : ∃ a b z, v = .agg #[.int .i64 a, .int .i64 b, .int .i64 z] ∧ i64 z := by
  have hC : Try.prog.cellsOf 39 = 3 := by kernel_rfl
  have ki : Try.prog.cellsOf 3 = 1 := by kernel_rfl
  have kp : Try.prog.cellsOf 23 = 2 := by kernel_rfl
  obtain ⟨cs, rfl, hsz⟩ := okWide_struct Try.underlying39 hval
  obtain ⟨l⟩ := cs
  match l, hsz.trans hC with
  | [q0, q1, q2], _ =>
    obtain ⟨fuel, hf⟩ := h
    obtain ⟨gs, n2, _, _, _, glen, gg⟩ := DataW.trod_struct Try.underlying39 hf
    match gs, glen with
    | [g0, g1], _ =>
      have b0 : DataW.trod enc Try.prog w 0 (fun _ => true) true n2 23 [q0, q1] = some g0 := by have := gg 0 _ rfl; simpa [Value.cells, kp] using this
      have b1 : DataW.trod enc Try.prog w 0 (fun _ => true) true n2 3 [q2] = some g1 := by have := gg 1 _ rfl; simpa [Value.cells, ki] using this
      obtain ⟨hs, n3, _, _, _, hlen, hh⟩ := DataW.trod_array Try.underlying23 b0
      match hs, hlen with
      | [h0, h1], _ =>
        have d0 : DataW.trod enc Try.prog w 0 (fun _ => true) true n3 3 [q0] = some h0 := by have := hh 0 (by decide); simpa [ki] using this
        have d1 : DataW.trod enc Try.prog w 0 (fun _ => true) true n3 3 [q1] = some h1 := by have := hh 1 (by decide); simpa [ki] using this
        obtain ⟨z0, e0, -, _⟩ := DataW.trod_int Try.underlying3 d0
        obtain ⟨z1, e1, -, _⟩ := DataW.trod_int Try.underlying3 d1
        obtain ⟨z2, e2, -, w2⟩ := DataW.trod_int Try.underlying3 b1
        obtain rfl : q0 = .int .i64 z0 := by simpa using e0
        obtain rfl : q1 = .int .i64 z1 := by simpa using e1
        obtain rfl : q2 = .int .i64 z2 := by simpa using e2
        exact ⟨z0, z1, z2, rfl, i64_wf w2⟩
end
section
variable {H : Type} {enc : TypeId × Value → H} {w : World}
set_option maxRecDepth 100000 in
theorem open_comes1 {fuel : Nat} {a : Addr} {cs' : List Value} {y : DataW H × List MemPlace} (hc : w.cells? 0 a 3 = some cs')
    (h : DataW.trod enc Try.prog w 0 (fun _ => true) true fuel 36 cs' = some y) :
    ∃ x : Rw, a.spot = none ∧ Cells3 pV qV nV w a.block a.off x ∧ wfRw x ∧ a.block < w.heap.size := by
  obtain ⟨xs, n', _, hy, hcl, hxl, hf⟩ := DataW.trod_struct Try.underlying36 h
  obtain ⟨_, hlen, hat⟩ := World.cells?_some hc
  clear hy
  match cs', hlen with
  | [q0, q1, q2], _ =>
    match xs, hxl with
    | [y0, y1, y2], _ =>
      have ki : Try.prog.cellsOf 3 = 1 := by kernel_rfl
      have f0 : DataW.trod enc Try.prog w 0 (fun _ => true) true n' 3 [q0] = some y0 := by have := hf 0 _ rfl; simpa [ki] using this
      have f1 : DataW.trod enc Try.prog w 0 (fun _ => true) true n' 3 [q1] = some y1 := by have := hf 1 _ rfl; simpa [ki] using this
      have f2 : DataW.trod enc Try.prog w 0 (fun _ => true) true n' 3 [q2] = some y2 := by have := hf 2 _ rfl; simpa [ki] using this
      obtain ⟨z0, e0, -, wf0⟩ := DataW.trod_int Try.underlying3 f0
      obtain ⟨z1, e1, -, wf1⟩ := DataW.trod_int Try.underlying3 f1
      obtain ⟨z2, e2, -, wf2⟩ := DataW.trod_int Try.underlying3 f2
      obtain rfl : q0 = .int .i64 z0 := by simpa using e0
      obtain rfl : q1 = .int .i64 z1 := by simpa using e1
      obtain rfl : q2 = .int .i64 z2 := by simpa using e2
      have c0 := hat 0 (by omega)
      have c1 := hat 1 (by omega)
      have c2 := hat 2 (by omega)
      obtain ⟨ab, ao, sp⟩ := a
      have hsp : sp = none := by
        have h := World.cell?_spot (c0.trans (rfl : _ = some (Value.int .i64 z0)))
        simpa [Addr.add] using h
      subst hsp
      rw [Addr.add_lit] at c0 c1 c2
      exact ⟨⟨z0, z1, z2⟩, rfl, ⟨c0, c1, c2⟩, ⟨i64_wf wf0, i64_wf wf1, i64_wf wf2⟩, block_lt_cell c0⟩
set_option maxRecDepth 100000 in
theorem open_comes {base : Nat} {v : Value} {d : DataW H} {ps : List MemPlace} (hval : Value.okWide Try.prog w .any base 32 v) (h : DataW.Trod enc Try.prog w 0 (fun _ => true) true 32 v d ps) (hw : (d.weights Try.prog 32).all (· ≤ reachBytes) = true) :
    ∃ l : List Rw, OldW w.heap.size w v l ∧ (∀ x ∈ l, wfRw x) ∧ l.length * 24 ≤ 140737488351232 := by
  obtain ⟨a1, len1, cap1, rfl⟩ := okWide_slice Try.underlying32 hval
  obtain ⟨fuel, hf⟩ := h
  have hw' : ∀ x ∈ d.weights Try.prog 32, x ≤ reachBytes := fun x hx => by simpa using List.all_eq_true.1 hw x hx
  rcases open_slice Try.underlying32 hf with ⟨hcs, hx⟩ | ⟨a, len, cap, m, n, D, Pl, hcs, hb, hl, hm, hmm, hx, hi⟩
  · simp [Value.cells] at hcs
    obtain ⟨rfl, rfl, rfl⟩ := hcs
    exact ⟨[], ThreeAt.nil _ _, (fun _ h => by cases h), by simp⟩
  · simp [Value.cells] at hcs
    obtain ⟨rfl, rfl, rfl⟩ := hcs
    obtain rfl : m = cap1 := by simpa using hmm
    have hxd := congrArg Prod.fst hx
    simp only at hxd
    subst hxd
    have hC : Try.prog.cellsOf 36 = 3 := by kernel_rfl
    have hBy : Try.prog.bytesOf 36 = 24 := by kernel_rfl
    have hreach : reachBytes = 140737488351232 := rfl
    have hwlen : m * 24 ≤ 140737488351232 := by
      have := hw' ((((List.range len1).map D).length + ((List.range (m - len1)).map fun j => D (len1 + j)).length) * Try.prog.bytesOf 36) (by rw [DataW.weights, Try.underlying32]; exact List.mem_cons_self)
      simp only [List.length_map, List.length_range, hBy, hreach] at this
      omega
    rw [hC] at hi
    have hone : ∀ i, i < len1 → ∃ x : Rw, a.spot = none ∧ Cells3 pV qV nV w a.block (a.off + i * 3) x ∧ wfRw x ∧ a.block < w.heap.size := by
      intro i hil
      obtain ⟨cs', hc, ht⟩ := hi i (by omega)
      obtain ⟨s, _, h2, h3⟩ := open_comes1 hc ht
      obtain ⟨cs0, hc0, ht0⟩ := hi 0 (by omega)
      obtain ⟨_, h0, _⟩ := open_comes1 hc0 ht0
      obtain ⟨ab, ao, sp⟩ := a
      have hsp : sp = none := by simpa [Addr.add] using h0
      subst hsp
      rw [Addr.add_lit] at h2 h3
      exact ⟨s, rfl, h2, h3⟩
    obtain ⟨X, hX⟩ := Classical.axiomOfChoice (r := fun (i : Nat) (s : Rw) => i < len1 → a.spot = none ∧ Cells3 pV qV nV w a.block (a.off + i * 3) s ∧ wfRw s ∧ a.block < w.heap.size) (fun i => by
      by_cases h : i < len1
      · obtain ⟨x, hx⟩ := hone i h
        exact ⟨x, fun _ => hx⟩
      · exact ⟨⟨0, 0, 0⟩, fun h' => absurd h' h⟩)
    have hget : ∀ (j : Nat) (x : Rw), ((List.range len1).map X)[j]? = some x → j < len1 ∧ X j = x := by
      intro j x hx
      rw [List.getElem?_map] at hx
      by_cases hj : j < len1
      · rw [List.getElem?_range hj] at hx
        exact ⟨hj, by simpa using hx⟩
      · rw [List.getElem?_eq_none (by simp; omega)] at hx
        simp at hx
    refine ⟨(List.range len1).map X, ⟨some a, m, by simp, by simpa using hl, (fun h => by cases h), fun hp => ?_⟩, fun y hy => ?_, by simp; omega⟩
    · have hp' : 0 < len1 := by simpa using hp
      obtain ⟨hs, _, _, hb⟩ := hX 0 hp'
      obtain ⟨ab, ao, spot⟩ := a
      obtain rfl : spot = none := hs
      refine ⟨ab, ao, rfl, hb, fun j x hx => ?_⟩
      obtain ⟨hj, rfl⟩ := hget j x hx
      exact (hX j hj).2.1
    · obtain ⟨j, hj, rfl⟩ := List.mem_map.1 hy
      exact (hX j (List.mem_range.1 hj)).2.2.1
end

end Go.Proofs.Ytlcmnemneghohaa.Dedup
