/-
  A graph that came in, its size told by the bulk of the reading.
-/
import Derived.Test.YtbgmhjcccabmmaaGraphAt
import Derived.Test.YtbgmhjcccabmmaaGraphUsesMath
import Derived.Test.YtbgmhjcccabmmaaBulkN
namespace Go.Proofs.Ytbgmhjcccabmmaa.Graph
open Go Go.RowKit Go.ChangeShapes Go.WideShapes Go.Deep Go.Proofs.Ytbgmhjcccabmmaa.Law

section
variable {H : Type} {enc : TypeId × Value → H} {w : World}

/-- Ints that came in. -/
theorem open_intsQ {v : Value} {x : DataW H × List MemPlace} {fuel : Nat} (hf : DataW.trod enc Try.prog w 0 (fun _ => true) true fuel 46 [v] = some x) :
    ∃ l : List Int, OldI w.heap.size w v l ∧ l.length ≤ Rows.uptoBulk x.1 := by
  have hb := fun (n : Nat) (hv : ∃ A cap, v = .slice A n cap) => open_nums_bulk (k := .i64) Try.underlying46 Try.underlying3 (by kernel_rfl) (⟨fuel, by rw [show v.cells.toList = [v] by obtain ⟨A, cap, rfl⟩ := hv; rfl]; exact hf⟩ : DataW.Trod enc Try.prog w 0 (fun _ => true) true 46 v x.1 x.2) hv
  rcases open_ints Try.underlying46 Try.underlying3 (by kernel_rfl) hf with ⟨hcs, hx⟩ | ⟨a, len, cap, zs, hcs, _, hl, hm, hz, hx, hcell, hwz⟩
  · obtain rfl : v = .slice none 0 0 := by simpa using hcs
    exact ⟨[], .nil _ _, by simp⟩
  · obtain rfl : v = .slice (some a) len cap := by simpa using hcs
    have hbb := hb len ⟨_, _, rfl⟩
    simp only [if_true] at hz
    have hlen : (zs.take len).length = len := by simp; omega
    refine ⟨zs.take len, ⟨some a, cap, by rw [hlen], by rw [hlen]; exact hl, (fun h => by cases h), fun hp => ?_⟩, by rw [hlen]; exact hbb⟩
    rw [hlen] at hp
    obtain ⟨ab, ao, spot⟩ := a
    have hspot : spot = none := by simpa [Addr.add] using World.cell?_spot (hcell 0 (by omega))
    subst hspot
    have h0 := hcell 0 (by omega)
    rw [Addr.add_lit] at h0
    refine ⟨ab, ao, rfl, block_lt_cell h0, fun j x hx => ?_⟩
    have hj : j < (zs.take len).length := (List.getElem?_eq_some_iff.1 hx).1
    have hj' := hcell j (by omega)
    rw [Addr.add_lit] at hj'
    rw [hj']
    have e : zs.getD j 0 = x := by
      rw [List.getElem?_take] at hx
      split at hx
      · simp [List.getD, hx]
      · cases hx
    rw [e]

set_option maxRecDepth 100000 in
theorem open_oprU {fuel : Nat} {a : Addr} {cs' : List Value} {y : DataW H × List MemPlace} (hc : w.cells? 0 a 7 = some cs')
    (h : DataW.trod enc Try.prog w 0 (fun _ => true) true fuel 49 cs' = some y) :
    ∃ (x : Opr) (u : Value), a.spot = none ∧ Cells7 w a.block a.off x u ∧ OldI w.heap.size w u x.ins ∧ x.ins.length + 1 ≤ Rows.uptoBulk y.1 ∧ a.block < w.heap.size := by
  obtain ⟨xs, n', _, hy, hcl, hxl, hf⟩ := DataW.trod_struct Try.underlying49 h
  obtain ⟨_, hlen, hat⟩ := World.cells?_some hc
  have hy1 := congrArg Prod.fst hy
  clear hy
  match cs', hlen with
  | [q0, q1, q2, q3, q4, q5, q6], _ =>
    match xs, hxl with
    | [y0, y1, y2, y3, y4, y5, y6], _ =>
      have ki : Try.prog.cellsOf 3 = 1 := by kernel_rfl
      have ku : Try.prog.cellsOf 47 = 1 := by kernel_rfl
      have kb : Try.prog.cellsOf 46 = 1 := by kernel_rfl
      have f0 : DataW.trod enc Try.prog w 0 (fun _ => true) true n' 3 [q0] = some y0 := by have := hf 0 _ rfl; simpa [ki] using this
      have f1 : DataW.trod enc Try.prog w 0 (fun _ => true) true n' 46 [q1] = some y1 := by have := hf 1 _ rfl; simpa [kb] using this
      have f2 : DataW.trod enc Try.prog w 0 (fun _ => true) true n' 3 [q2] = some y2 := by have := hf 2 _ rfl; simpa [ki] using this
      have f3 : DataW.trod enc Try.prog w 0 (fun _ => true) true n' 47 [q3] = some y3 := by have := hf 3 _ rfl; simpa [ku] using this
      have f4 : DataW.trod enc Try.prog w 0 (fun _ => true) true n' 3 [q4] = some y4 := by have := hf 4 _ rfl; simpa [ki] using this
      have f5 : DataW.trod enc Try.prog w 0 (fun _ => true) true n' 3 [q5] = some y5 := by have := hf 5 _ rfl; simpa [ki] using this
      have f6 : DataW.trod enc Try.prog w 0 (fun _ => true) true n' 47 [q6] = some y6 := by have := hf 6 _ rfl; simpa [ku] using this
      obtain ⟨z0, e0, -, wf0⟩ := DataW.trod_int Try.underlying3 f0
      obtain ⟨z2, e2, -, wf2⟩ := DataW.trod_int Try.underlying3 f2
      obtain ⟨z3, e3, -, wf3⟩ := DataW.trod_int Try.underlying47 f3
      obtain ⟨z4, e4, -, wf4⟩ := DataW.trod_int Try.underlying3 f4
      obtain ⟨z5, e5, -, wf5⟩ := DataW.trod_int Try.underlying3 f5
      obtain ⟨z6, e6, -, wf6⟩ := DataW.trod_int Try.underlying47 f6
      obtain rfl : q0 = .int .i64 z0 := by simpa using e0
      obtain rfl : q2 = .int .i64 z2 := by simpa using e2
      obtain rfl : q3 = .int .u32 z3 := by simpa using e3
      obtain rfl : q4 = .int .i64 z4 := by simpa using e4
      obtain rfl : q5 = .int .i64 z5 := by simpa using e5
      obtain rfl : q6 = .int .u32 z6 := by simpa using e6
      obtain ⟨ins, hI, hln⟩ := open_intsQ f1
      have c0 := hat 0 (by omega)
      have c1 := hat 1 (by omega)
      have c2 := hat 2 (by omega)
      have c3 := hat 3 (by omega)
      have c4 := hat 4 (by omega)
      have c5 := hat 5 (by omega)
      have c6 := hat 6 (by omega)
      obtain ⟨ab, ao, sp⟩ := a
      have hsp : sp = none := by
        have h := World.cell?_spot (c0.trans (rfl : _ = some (Value.int .i64 z0)))
        simpa [Addr.add] using h
      subst hsp
      rw [Addr.add_lit] at c0 c1 c2 c3 c4 c5 c6
      have w3 := u32_wf wf3
      have w6 := u32_wf wf6
      have e3' : ((z3.toNat : Nat) : Int) = z3 := by omega
      have e6' : ((z6.toNat : Nat) : Int) = z6 := by omega
      refine ⟨⟨z0, ins, z2, z3.toNat, z4, z5, z6.toNat⟩, q1, rfl, ⟨c0, c1, c2, by rw [e3']; exact c3, c4, c5, by rw [e6']; exact c6⟩, hI, ?_, block_lt_cell c0⟩
      rw [hy1]
      simp only [List.map_cons, List.map_nil, Rows.uptoBulk, Rows.uptoBulkAll]
      omega

theorem bulk_sum {D : Nat → DataW H} {X : Nat → Opr} : ∀ (n : Nat), (∀ i, i < n → (X i).ins.length + 1 ≤ Rows.uptoBulk (D i)) → insN ((List.range n).map X) + n ≤ Rows.uptoBulkAll ((List.range n).map D)
  | 0, _ => by simp [insN]
  | n + 1, h => by
    have h1 := bulk_sum n fun i hi => h i (by omega)
    have h2 := h n (by omega)
    rw [List.range_succ, List.map_append, List.map_append]
    have e : ∀ a b : List (DataW H), Rows.uptoBulkAll (a ++ b) = Rows.uptoBulkAll a + Rows.uptoBulkAll b := by
      intro a b
      induction a with
      | nil => simp [Rows.uptoBulkAll]
      | cons x r ih => rw [List.cons_append, Rows.uptoBulkAll, Rows.uptoBulkAll, ih]; omega
    rw [e]
    simp only [insN, List.map_append, List.sum_append, List.map_cons, List.map_nil, List.sum_cons, List.sum_nil, Rows.uptoBulkAll] at h1 ⊢
    omega

set_option maxRecDepth 100000 in
theorem open_opsU {v : Value} {x : DataW H × List MemPlace} {fuel : Nat} (hf : DataW.trod enc Try.prog w 0 (fun _ => true) true fuel 22 [v] = some x) :
    ∃ l : List Opr, OldO w.heap.size w v l ∧ insN l + l.length ≤ Rows.uptoBulk x.1 := by
  rcases open_slice Try.underlying22 hf with ⟨hcs, hx⟩ | ⟨a, len, cap, m, n, D, Pl, hcs, hb, hl, hm, hmm, hx, hi⟩
  · obtain rfl : v = .slice none 0 0 := by simpa using hcs
    exact ⟨[], .nil _ _, by simp [insN]⟩
  · obtain rfl : v = .slice (some a) len cap := by simpa using hcs
    obtain rfl : m = cap := by simpa using hmm
    subst hx
    have hC : Try.prog.cellsOf 49 = 7 := by kernel_rfl
    rw [hC] at hi
    have hone : ∀ i, i < len → ∃ (x : Opr) (u : Value), a.spot = none ∧ Cells7 w a.block (a.off + i * 7) x u ∧ OldI w.heap.size w u x.ins ∧ x.ins.length + 1 ≤ Rows.uptoBulk (D i) ∧ a.block < w.heap.size := by
      intro i hil
      obtain ⟨cs', hc, ht⟩ := hi i (by omega)
      obtain ⟨s, u, _, h2, h3⟩ := open_oprU hc ht
      obtain ⟨cs0, hc0, ht0⟩ := hi 0 (by omega)
      obtain ⟨_, _, h0, _⟩ := open_oprU hc0 ht0
      obtain ⟨ab, ao, sp⟩ := a
      have hsp : sp = none := by simpa [Addr.add] using h0
      subst hsp
      rw [Addr.add_lit] at h2 h3
      exact ⟨s, u, rfl, h2, h3⟩
    obtain ⟨X, hX⟩ := Classical.axiomOfChoice (r := fun (i : Nat) (s : Opr) => i < len → ∃ u : Value, a.spot = none ∧ Cells7 w a.block (a.off + i * 7) s u ∧ OldI w.heap.size w u s.ins ∧ s.ins.length + 1 ≤ Rows.uptoBulk (D i) ∧ a.block < w.heap.size) (fun i => by
      by_cases h : i < len
      · obtain ⟨x, u, hx⟩ := hone i h
        exact ⟨x, fun _ => ⟨u, hx⟩⟩
      · exact ⟨⟨0, [], 0, 0, 0, 0, 0⟩, fun h' => absurd h' h⟩)
    have hget : ∀ (j : Nat) (x : Opr), ((List.range len).map X)[j]? = some x → j < len ∧ X j = x := by
      intro j x hx
      rw [List.getElem?_map] at hx
      by_cases hj : j < len
      · rw [List.getElem?_range hj] at hx
        exact ⟨hj, by simpa using hx⟩
      · rw [List.getElem?_eq_none (by simp; omega)] at hx
        simp at hx
    refine ⟨(List.range len).map X, ⟨some a, m, by simp, by simpa using hl, (fun h => by cases h), fun hp => ?_⟩, ?_⟩
    · have hp' : 0 < len := by simpa using hp
      obtain ⟨u0, hs, _, _, _, hb⟩ := hX 0 hp'
      obtain ⟨ab, ao, spot⟩ := a
      obtain rfl : spot = none := hs
      refine ⟨ab, ao, rfl, hb, fun j x hx => ?_⟩
      obtain ⟨hj, rfl⟩ := hget j x hx
      obtain ⟨u, _, h1, h2, _⟩ := hX j hj
      exact ⟨u, h1, h2⟩
    · have := bulk_sum (D := D) (X := X) len fun i hi => by obtain ⟨_, _, _, _, h, _⟩ := hX i hi; exact h
      rw [List.length_map, List.length_range]
      simp only [Rows.uptoBulk]
      omega

set_option maxRecDepth 100000 in
/-- A graph that came in. -/
theorem open_graphU {base : Nat} {v : Value} {d : DataW H} {ps : List MemPlace} (hval : Value.okWide Try.prog w .any base 24 v) (h : DataW.Trod enc Try.prog w 0 (fun _ => true) true 24 v d ps) :
    ∃ (l : List Opr) (u : Value), v = .agg #[u] ∧ OldO w.heap.size w u l ∧ insN l + l.length ≤ Rows.uptoBulk d := by
  have hC : Try.prog.cellsOf 24 = 1 := by kernel_rfl
  have ko : Try.prog.cellsOf 22 = 1 := by kernel_rfl
  obtain ⟨cs, rfl, hsz⟩ := okWide_struct Try.underlying24 hval
  obtain ⟨l⟩ := cs
  match l, hsz.trans hC with
  | [q0], _ =>
    obtain ⟨fuel, hf⟩ := h
    obtain ⟨gs, n2, _, gy, _, glen, gg⟩ := DataW.trod_struct Try.underlying24 hf
    match gs, glen with
    | [g0], _ =>
      have gy1 : d = _ := congrArg Prod.fst gy
      have b0 : DataW.trod enc Try.prog w 0 (fun _ => true) true n2 22 [q0] = some g0 := by have := gg 0 _ rfl; simpa [Value.cells, ko] using this
      obtain ⟨ops, hO, hOl⟩ := open_opsU b0
      refine ⟨ops, q0, rfl, hO, ?_⟩
      rw [gy1]
      simp only [List.map_cons, List.map_nil, Rows.uptoBulk, Rows.uptoBulkAll]
      omega
end
theorem ins_le_sum {l : List Opr} {x : Opr} (h : x ∈ l) : x.ins.length ≤ insN l := by
  obtain ⟨i, hi⟩ := List.getElem?_of_mem h
  have := insN_le hi
  omega

end Go.Proofs.Ytbgmhjcccabmmaa.Graph
