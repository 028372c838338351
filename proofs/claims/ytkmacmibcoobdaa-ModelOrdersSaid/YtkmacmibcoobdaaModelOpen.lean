/-
  Records that came in.
-/
import Derived.Test.YtkmacmibcoobdaaModelAt
namespace Go.Proofs.Ytkmacmibcoobdaa.Model
open Go Go.RowKit Go.ChangeShapes Go.WideShapes Go.Deep Go.Proofs.Ytkmacmibcoobdaa.Law Go.Proofs.Ytkmacmibcoobdaa.Graph Go.Proofs.Ytkmacmibcoobdaa.Fold

section
variable {H : Type} {enc : TypeId × Value → H} {w : World}
set_option maxRecDepth 100000 in
theorem open_rec {fuel : Nat} {a : Addr} {cs' : List Value} {y : DataW H × List MemPlace} (hc : w.cells? 0 a 5 = some cs')
    (h : DataW.trod enc Try.prog w 0 (fun _ => true) true fuel 44 cs' = some y) :
    ∃ x : Rc, a.spot = none ∧ Cells5 w a.block a.off x ∧ (Short x.key ∧ x.val < 4294967296 ∧ i64 x.producer ∧ i64 x.seq ∧ i64 x.part) ∧ a.block < w.heap.size := by
  obtain ⟨xs, n', _, hy, hcl, hxl, hf⟩ := DataW.trod_struct Try.underlying44 h
  obtain ⟨_, hlen, hat⟩ := World.cells?_some hc
  clear hy
  match cs', hlen with
  | [q0, q1, q2, q3, q4], _ =>
    match xs, hxl with
    | [y0, y1, y2, y3, y4], _ =>
      have ki : Try.prog.cellsOf 3 = 1 := by kernel_rfl
      have ku : Try.prog.cellsOf 42 = 1 := by kernel_rfl
      have ks : Try.prog.cellsOf 9 = 1 := by kernel_rfl
      have f0 : DataW.trod enc Try.prog w 0 (fun _ => true) true n' 3 [q0] = some y0 := by have := hf 0 _ rfl; simpa [ki] using this
      have f1 : DataW.trod enc Try.prog w 0 (fun _ => true) true n' 3 [q1] = some y1 := by have := hf 1 _ rfl; simpa [ki] using this
      have f2 : DataW.trod enc Try.prog w 0 (fun _ => true) true n' 3 [q2] = some y2 := by have := hf 2 _ rfl; simpa [ki] using this
      have f3 : DataW.trod enc Try.prog w 0 (fun _ => true) true n' 9 [q3] = some y3 := by have := hf 3 _ rfl; simpa [ki, ks] using this
      have f4 : DataW.trod enc Try.prog w 0 (fun _ => true) true n' 42 [q4] = some y4 := by have := hf 4 _ rfl; simpa [ki, ks, ku] using this
      obtain ⟨z0, e0, -, wf0⟩ := DataW.trod_int Try.underlying3 f0
      obtain ⟨z1, e1, -, wf1⟩ := DataW.trod_int Try.underlying3 f1
      obtain ⟨z2, e2, -, wf2⟩ := DataW.trod_int Try.underlying3 f2
      obtain ⟨s3, e3, _, hs3⟩ := DataW.trod_string Try.underlying9 f3
      obtain ⟨z4, e4, -, wf4⟩ := DataW.trod_int Try.underlying42 f4
      obtain rfl : q0 = .int .i64 z0 := by simpa using e0
      obtain rfl : q1 = .int .i64 z1 := by simpa using e1
      obtain rfl : q2 = .int .i64 z2 := by simpa using e2
      obtain rfl : q3 = .string s3 := by simpa using e3
      obtain rfl : q4 = .int .u32 z4 := by simpa using e4
      have c0 := hat 0 (by omega)
      have c1 := hat 1 (by omega)
      have c2 := hat 2 (by omega)
      have c3 := hat 3 (by omega)
      have c4 := hat 4 (by omega)
      obtain ⟨ab, ao, sp⟩ := a
      have hsp : sp = none := by
        have h := World.cell?_spot (c0.trans (rfl : _ = some (Value.int .i64 z0)))
        simpa [Addr.add] using h
      subst hsp
      rw [Addr.add_lit] at c0 c1 c2 c3 c4
      have w4 := u32_wf wf4
      have e4' : ((z4.toNat : Nat) : Int) = z4 := by omega
      exact ⟨⟨z0, z1, z2, s3, z4.toNat⟩, rfl, ⟨c0, c1, c2, c3, by rw [e4']; exact c4⟩, ⟨hs3, by show z4.toNat < _; omega, i64_wf wf0, i64_wf wf1, i64_wf wf2⟩, block_lt_cell c0⟩
set_option maxRecDepth 100000 in
/-- Records that came in. -/
theorem open_recs {base : Nat} {v : Value} {d : DataW H} {ps : List MemPlace} (hval : Value.okWide Try.prog w .any base 36 v) (h : DataW.Trod enc Try.prog w 0 (fun _ => true) true 36 v d ps) (hw : (d.weights Try.prog 36).all (· ≤ reachBytes) = true) :
    ∃ l : List Rc, OldRc w.heap.size w v l ∧ wfR l ∧ l.length * 48 ≤ 140737488351232 := by
  obtain ⟨a1, len1, cap1, rfl⟩ := okWide_slice Try.underlying36 hval
  obtain ⟨fuel, hf⟩ := h
  have hw' : ∀ x ∈ d.weights Try.prog 36, x ≤ reachBytes := fun x hx => by simpa using List.all_eq_true.1 hw x hx
  rcases open_slice Try.underlying36 hf with ⟨hcs, hx⟩ | ⟨a, len, cap, m, n, D, Pl, hcs, hb, hl, hm, hmm, hx, hi⟩
  · simp [Value.cells] at hcs
    obtain ⟨rfl, rfl, rfl⟩ := hcs
    exact ⟨[], ⟨none, 0, rfl, Nat.le_refl _, fun _ => rfl, fun h => absurd h (Nat.lt_irrefl _)⟩, (fun _ h => by cases h), by simp⟩
  · simp [Value.cells] at hcs
    obtain ⟨rfl, rfl, rfl⟩ := hcs
    obtain rfl : m = cap1 := by simpa using hmm
    have hxd := congrArg Prod.fst hx
    simp only at hxd
    subst hxd
    have hC : Try.prog.cellsOf 44 = 5 := by kernel_rfl
    have hBy : Try.prog.bytesOf 44 = 48 := by kernel_rfl
    have hreach : reachBytes = 140737488351232 := rfl
    have hwlen : m * 48 ≤ 140737488351232 := by
      have := hw' ((((List.range len1).map D).length + ((List.range (m - len1)).map fun j => D (len1 + j)).length) * Try.prog.bytesOf 44) (by rw [DataW.weights, Try.underlying36]; exact List.mem_cons_self)
      simp only [List.length_map, List.length_range, hBy, hreach] at this
      omega
    rw [hC] at hi
    have hone : ∀ i, i < len1 → ∃ x : Rc, a.spot = none ∧ Cells5 w a.block (a.off + i * 5) x ∧ (Short x.key ∧ x.val < 4294967296 ∧ i64 x.producer ∧ i64 x.seq ∧ i64 x.part) ∧ a.block < w.heap.size := by
      intro i hil
      obtain ⟨cs', hc, ht⟩ := hi i (by omega)
      obtain ⟨s, _, h2, h3⟩ := open_rec hc ht
      obtain ⟨cs0, hc0, ht0⟩ := hi 0 (by omega)
      obtain ⟨_, h0, _⟩ := open_rec hc0 ht0
      obtain ⟨ab, ao, sp⟩ := a
      have hsp : sp = none := by simpa [Addr.add] using h0
      subst hsp
      rw [Addr.add_lit] at h2 h3
      exact ⟨s, rfl, h2, h3⟩
    obtain ⟨X, hX⟩ := Classical.axiomOfChoice (r := fun (i : Nat) (s : Rc) => i < len1 → a.spot = none ∧ Cells5 w a.block (a.off + i * 5) s ∧ (Short s.key ∧ s.val < 4294967296 ∧ i64 s.producer ∧ i64 s.seq ∧ i64 s.part) ∧ a.block < w.heap.size) (fun i => by
      by_cases h : i < len1
      · obtain ⟨x, hx⟩ := hone i h
        exact ⟨x, fun _ => hx⟩
      · exact ⟨⟨0, 0, 0, ⟨#[]⟩, 0⟩, fun h' => absurd h' h⟩)
    have hget : ∀ (j : Nat) (x : Rc), ((List.range len1).map X)[j]? = some x → j < len1 ∧ X j = x := by
      intro j x hx
      rw [List.getElem?_map] at hx
      by_cases hj : j < len1
      · rw [List.getElem?_range hj] at hx
        exact ⟨hj, by simpa using hx⟩
      · rw [List.getElem?_eq_none (by simp; omega)] at hx
        simp at hx
    refine ⟨(List.range len1).map X, ⟨some a, m, by simp, by simpa using hl, (fun h => by cases h), fun hp => ?_⟩, fun y hy => ?_, by simp; omega⟩
    · have hp' : 0 < len1 := by simpa using hp
      obtain ⟨hs, _, _, hb⟩ := hX 0 hp'
      obtain ⟨ab, ao, spot⟩ := a
      obtain rfl : spot = none := hs
      refine ⟨ab, ao, rfl, hb, fun j x hx => ?_⟩
      obtain ⟨hj, rfl⟩ := hget j x hx
      exact (hX j hj).2.1
    · obtain ⟨j, hj, rfl⟩ := List.mem_map.1 hy
      exact (hX j (List.mem_range.1 hj)).2.2.1
end

end Go.Proofs.Ytkmacmibcoobdaa.Model
