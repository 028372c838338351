/-
  Records, pairs and states that came in.
-/
import Derived.Test.YtmfndimejnbgkaaModelAt
namespace Go.Proofs.Ytmfndimejnbgkaa.Model
open Go Go.RowKit Go.ChangeShapes Go.WideShapes Go.Deep Go.Proofs.Ytmfndimejnbgkaa.Law Go.Proofs.Ytmfndimejnbgkaa.Graph Go.Proofs.Ytmfndimejnbgkaa.Fold

section
variable {H : Type} {enc : TypeId × Value → H} {w : World}
set_option maxRecDepth 100000 in
theorem open_rec {fuel : Nat} {a : Addr} {cs' : List Value} {y : DataW H × List MemPlace} (hc : w.cells? 0 a 5 = some cs')
    (h : DataW.trod enc Try.prog w 0 (fun _ => true) true fuel 39 cs' = some y) :
    ∃ x : Rc, a.spot = none ∧ Cells5 w a.block a.off x ∧ (Short x.key ∧ x.val < 4294967296 ∧ i64 x.producer ∧ i64 x.seq ∧ i64 x.part) ∧ a.block < w.heap.size := by
  obtain ⟨xs, n', _, hy, hcl, hxl, hf⟩ := DataW.trod_struct Try.underlying39 h
  obtain ⟨_, hlen, hat⟩ := World.cells?_some hc
  clear hy
  match cs', hlen with
  | [q0, q1, q2, q3, q4], _ =>
    match xs, hxl with
    | [y0, y1, y2, y3, y4], _ =>
      have ki : Try.prog.cellsOf 3 = 1 := by kernel_rfl
      have ku : Try.prog.cellsOf 25 = 1 := by kernel_rfl
      have ks : Try.prog.cellsOf 9 = 1 := by kernel_rfl
      have f0 : DataW.trod enc Try.prog w 0 (fun _ => true) true n' 3 [q0] = some y0 := by have := hf 0 _ rfl; simpa [ki] using this
      have f1 : DataW.trod enc Try.prog w 0 (fun _ => true) true n' 3 [q1] = some y1 := by have := hf 1 _ rfl; simpa [ki] using this
      have f2 : DataW.trod enc Try.prog w 0 (fun _ => true) true n' 3 [q2] = some y2 := by have := hf 2 _ rfl; simpa [ki] using this
      have f3 : DataW.trod enc Try.prog w 0 (fun _ => true) true n' 9 [q3] = some y3 := by have := hf 3 _ rfl; simpa [ki, ks] using this
      have f4 : DataW.trod enc Try.prog w 0 (fun _ => true) true n' 25 [q4] = some y4 := by have := hf 4 _ rfl; simpa [ki, ks, ku] using this
      obtain ⟨z0, e0, -, wf0⟩ := DataW.trod_int Try.underlying3 f0
      obtain ⟨z1, e1, -, wf1⟩ := DataW.trod_int Try.underlying3 f1
      obtain ⟨z2, e2, -, wf2⟩ := DataW.trod_int Try.underlying3 f2
      obtain ⟨s3, e3, _, hs3⟩ := DataW.trod_string Try.underlying9 f3
      obtain ⟨z4, e4, -, wf4⟩ := DataW.trod_int Try.underlying25 f4
      obtain rfl : q0 = .int .i64 z0 := by simpa using e0
      obtain rfl : q1 = .int .i64 z1 := by simpa using e1
      obtain rfl : q2 = .int .i64 z2 := by simpa using e2
      obtain rfl : q3 = .string s3 := by simpa using e3
      obtain rfl : q4 = .int .u32 z4 := by simpa using e4
      have c0 := hat 0 (by omega)
      have c1 := hat 1 (by omega)
      have c2 := hat 2 (by omega)
      have c3 := hat 3 (by omega)
      have c4 := hat 4 (by omega)
      obtain ⟨ab, ao, sp⟩ := a
      have hsp : sp = none := by
        have h := World.cell?_spot (c0.trans (rfl : _ = some (Value.int .i64 z0)))
        simpa [Addr.add] using h
      subst hsp
      rw [Addr.add_lit] at c0 c1 c2 c3 c4
      have w4 := u32_wf wf4
      have e4' : ((z4.toNat : Nat) : Int) = z4 := by omega
      exact ⟨⟨z0, z1, z2, s3, z4.toNat⟩, rfl, ⟨c0, c1, c2, c3, by rw [e4']; exact c4⟩, ⟨hs3, by show z4.toNat < _; omega, i64_wf wf0, i64_wf wf1, i64_wf wf2⟩, block_lt_cell c0⟩
set_option maxRecDepth 100000 in
/-- Records that came in. -/
theorem open_recs {base : Nat} {v : Value} {d : DataW H} {ps : List MemPlace} (hval : Value.okWide Try.prog w .any base 37 v) (h : DataW.Trod enc Try.prog w 0 (fun _ => true) true 37 v d ps) (hw : (d.weights Try.prog 37).all (· ≤ reachBytes) = true) :
    ∃ l : List Rc, OldRc w.heap.size w v l ∧ wfR l ∧ l.length * 48 ≤ 140737488351232 := by
  obtain ⟨a1, len1, cap1, rfl⟩ := okWide_slice Try.underlying37 hval
  obtain ⟨fuel, hf⟩ := h
  have hw' : ∀ x ∈ d.weights Try.prog 37, x ≤ reachBytes := fun x hx => by simpa using List.all_eq_true.1 hw x hx
  rcases open_slice Try.underlying37 hf with ⟨hcs, hx⟩ | ⟨a, len, cap, m, n, D, Pl, hcs, hb, hl, hm, hmm, hx, hi⟩
  · simp [Value.cells] at hcs
    obtain ⟨rfl, rfl, rfl⟩ := hcs
    exact ⟨[], ⟨none, 0, rfl, Nat.le_refl _, fun _ => rfl, fun h => absurd h (Nat.lt_irrefl _)⟩, (fun _ h => by cases h), by simp⟩
  · simp [Value.cells] at hcs
    obtain ⟨rfl, rfl, rfl⟩ := hcs
    obtain rfl : m = cap1 := by simpa using hmm
    have hxd := congrArg Prod.fst hx
    simp only at hxd
    subst hxd
    have hC : Try.prog.cellsOf 39 = 5 := by kernel_rfl
    have hBy : Try.prog.bytesOf 39 = 48 := by kernel_rfl
    have hreach : reachBytes = 140737488351232 := rfl
    have hwlen : m * 48 ≤ 140737488351232 := by
      have := hw' ((((List.range len1).map D).length + ((List.range (m - len1)).map fun j => D (len1 + j)).length) * Try.prog.bytesOf 39) (by rw [DataW.weights, Try.underlying37]; exact List.mem_cons_self)
      simp only [List.length_map, List.length_range, hBy, hreach] at this
      omega
    rw [hC] at hi
    have hone : ∀ i, i < len1 → ∃ x : Rc, a.spot = none ∧ Cells5 w a.block (a.off + i * 5) x ∧ (Short x.key ∧ x.val < 4294967296 ∧ i64 x.producer ∧ i64 x.seq ∧ i64 x.part) ∧ a.block < w.heap.size := by
      intro i hil
      obtain ⟨cs', hc, ht⟩ := hi i (by omega)
      obtain ⟨s, _, h2, h3⟩ := open_rec hc ht
      obtain ⟨cs0, hc0, ht0⟩ := hi 0 (by omega)
      obtain ⟨_, h0, _⟩ := open_rec hc0 ht0
      obtain ⟨ab, ao, sp⟩ := a
      have hsp : sp = none := by simpa [Addr.add] using h0
      subst hsp
      rw [Addr.add_lit] at h2 h3
      exact ⟨s, rfl, h2, h3⟩
    obtain ⟨X, hX⟩ := Classical.axiomOfChoice (r := fun (i : Nat) (s : Rc) => i < len1 → a.spot = none ∧ Cells5 w a.block (a.off + i * 5) s ∧ (Short s.key ∧ s.val < 4294967296 ∧ i64 s.producer ∧ i64 s.seq ∧ i64 s.part) ∧ a.block < w.heap.size) (fun i => by
      by_cases h : i < len1
      · obtain ⟨x, hx⟩ := hone i h
        exact ⟨x, fun _ => hx⟩
      · exact ⟨⟨0, 0, 0, ⟨#[]⟩, 0⟩, fun h' => absurd h' h⟩)
    have hget : ∀ (j : Nat) (x : Rc), ((List.range len1).map X)[j]? = some x → j < len1 ∧ X j = x := by
      intro j x hx
      rw [List.getElem?_map] at hx
      by_cases hj : j < len1
      · rw [List.getElem?_range hj] at hx
        exact ⟨hj, by simpa using hx⟩
      · rw [List.getElem?_eq_none (by simp; omega)] at hx
        simp at hx
    refine ⟨(List.range len1).map X, ⟨some a, m, by simp, by simpa using hl, (fun h => by cases h), fun hp => ?_⟩, fun y hy => ?_, by simp; omega⟩
    · have hp' : 0 < len1 := by simpa using hp
      obtain ⟨hs, _, _, hb⟩ := hX 0 hp'
      obtain ⟨ab, ao, spot⟩ := a
      obtain rfl : spot = none := hs
      refine ⟨ab, ao, rfl, hb, fun j x hx => ?_⟩
      obtain ⟨hj, rfl⟩ := hget j x hx
      exact (hX j hj).2.1
    · obtain ⟨j, hj, rfl⟩ := List.mem_map.1 hy
      exact (hX j (List.mem_range.1 hj)).2.2.1
end

section
variable {H : Type} {enc : TypeId × Value → H} {w : World}
set_option maxRecDepth 100000 in
theorem open_pair {fuel : Nat} {a : Addr} {cs' : List Value} {y : DataW H × List MemPlace} (hc : w.cells? 0 a 2 = some cs')
    (h : DataW.trod enc Try.prog w 0 (fun _ => true) true fuel 47 cs' = some y) :
    ∃ x : Pr, a.spot = none ∧ (w.cell? ⟨a.block, a.off, none⟩ = some (pk x) ∧ w.cell? ⟨a.block, a.off + 1, none⟩ = some (pv x)) ∧ (Short x.key ∧ x.val < 4294967296) ∧ a.block < w.heap.size := by
  obtain ⟨xs, n', _, hy, hcl, hxl, hf⟩ := DataW.trod_struct Try.underlying47 h
  obtain ⟨_, hlen, hat⟩ := World.cells?_some hc
  clear hy
  match cs', hlen with
  | [q3, q4], _ =>
    match xs, hxl with
    | [y3, y4], _ =>
      have ku : Try.prog.cellsOf 25 = 1 := by kernel_rfl
      have ks : Try.prog.cellsOf 9 = 1 := by kernel_rfl
      have f3 : DataW.trod enc Try.prog w 0 (fun _ => true) true n' 9 [q3] = some y3 := by have := hf 0 _ rfl; simpa [ks] using this
      have f4 : DataW.trod enc Try.prog w 0 (fun _ => true) true n' 25 [q4] = some y4 := by have := hf 1 _ rfl; simpa [ks, ku] using this
      obtain ⟨s3, e3, _, hs3⟩ := DataW.trod_string Try.underlying9 f3
      obtain ⟨z4, e4, -, wf4⟩ := DataW.trod_int Try.underlying25 f4
      obtain rfl : q3 = .string s3 := by simpa using e3
      obtain rfl : q4 = .int .u32 z4 := by simpa using e4
      have c3 := hat 0 (by omega)
      have c4 := hat 1 (by omega)
      obtain ⟨ab, ao, sp⟩ := a
      have hsp : sp = none := by
        have h := World.cell?_spot (c3.trans (rfl : _ = some (Value.string s3)))
        simpa [Addr.add] using h
      subst hsp
      rw [Addr.add_lit] at c3 c4
      have w4 := u32_wf wf4
      have e4' : ((z4.toNat : Nat) : Int) = z4 := by omega
      exact ⟨⟨s3, z4.toNat⟩, rfl, ⟨c3, by show _ = some (Value.int .u32 ((z4.toNat : Nat) : Int)); rw [e4']; exact c4⟩, ⟨hs3, by show z4.toNat < _; omega⟩, block_lt_cell c3⟩
set_option maxRecDepth 100000 in
/-- Pairs that came in. -/
theorem open_pairsP {v : Value} {x : DataW H × List MemPlace} {fuel : Nat} (hf : DataW.trod enc Try.prog w 0 (fun _ => true) true fuel 41 [v] = some x) (hw : ∀ y ∈ x.1.weights Try.prog 41, y ≤ reachBytes) :
    ∃ l : List Pr, OldP w.heap.size w v l ∧ wfP l ∧ l.length * 24 ≤ 140737488351232 := by
  rcases open_slice Try.underlying41 hf with ⟨hcs, hx⟩ | ⟨a, len, cap, m, n, D, Pl, hcs, hb, hl, hm, hmm, hx, hi⟩
  · obtain rfl : v = .slice none 0 0 := by simpa using hcs
    exact ⟨[], TwoAt.nil _ _, wfP.nil, by simp⟩
  · obtain rfl : v = .slice (some a) len cap := by simpa using hcs
    obtain rfl : m = cap := by simpa using hmm
    subst hx
    have hC : Try.prog.cellsOf 47 = 2 := by kernel_rfl
    have hBy : Try.prog.bytesOf 47 = 24 := by kernel_rfl
    have hreach : reachBytes = 140737488351232 := rfl
    have hwlen : m * 24 ≤ 140737488351232 := by
      have := hw ((((List.range len).map D).length + ((List.range (m - len)).map fun j => D (len + j)).length) * Try.prog.bytesOf 47) (by rw [DataW.weights, Try.underlying41]; exact List.mem_cons_self)
      simp only [List.length_map, List.length_range, hBy, hreach] at this
      omega
    rw [hC] at hi
    have hone : ∀ i, i < len → ∃ x : Pr, a.spot = none ∧ (w.cell? ⟨a.block, a.off + i * 2, none⟩ = some (pk x) ∧ w.cell? ⟨a.block, a.off + i * 2 + 1, none⟩ = some (pv x)) ∧ (Short x.key ∧ x.val < 4294967296) ∧ a.block < w.heap.size := by
      intro i hil
      obtain ⟨cs', hc, ht⟩ := hi i (by omega)
      obtain ⟨s, _, h2, h3⟩ := open_pair hc ht
      obtain ⟨cs0, hc0, ht0⟩ := hi 0 (by omega)
      obtain ⟨_, h0, _⟩ := open_pair hc0 ht0
      obtain ⟨ab, ao, sp⟩ := a
      have hsp : sp = none := by simpa [Addr.add] using h0
      subst hsp
      rw [Addr.add_lit] at h2 h3
      exact ⟨s, rfl, h2, h3⟩
    obtain ⟨X, hX⟩ := Classical.axiomOfChoice (r := fun (i : Nat) (x : Pr) => i < len → a.spot = none ∧ (w.cell? ⟨a.block, a.off + i * 2, none⟩ = some (pk x) ∧ w.cell? ⟨a.block, a.off + i * 2 + 1, none⟩ = some (pv x)) ∧ (Short x.key ∧ x.val < 4294967296) ∧ a.block < w.heap.size) (fun i => by
      by_cases h : i < len
      · obtain ⟨x, hx⟩ := hone i h
        exact ⟨x, fun _ => hx⟩
      · exact ⟨⟨⟨#[]⟩, 0⟩, fun h' => absurd h' h⟩)
    have hget : ∀ (j : Nat) (x : Pr), ((List.range len).map X)[j]? = some x → j < len ∧ X j = x := by
      intro j x hx
      rw [List.getElem?_map] at hx
      by_cases hj : j < len
      · rw [List.getElem?_range hj] at hx
        exact ⟨hj, by simpa using hx⟩
      · rw [List.getElem?_eq_none (by simp; omega)] at hx
        simp at hx
    refine ⟨(List.range len).map X, ⟨some a, m, by simp, by simpa using hl, (fun h => by cases h), fun hp => ?_⟩, fun y hy => ?_, by simp; omega⟩
    · have hp' : 0 < len := by simpa using hp
      obtain ⟨hs, _, _, hb⟩ := hX 0 hp'
      obtain ⟨ab, ao, spot⟩ := a
      obtain rfl : spot = none := hs
      refine ⟨ab, ao, rfl, hb, fun j x hx => ?_⟩
      obtain ⟨hj, rfl⟩ := hget j x hx
      exact (hX j hj).2.1
    · obtain ⟨j, hj, rfl⟩ := List.mem_map.1 hy
      exact (hX j (List.mem_range.1 hj)).2.2.1
set_option maxRecDepth 100000 in
/-- Pairs that came in, as an argument. -/
theorem open_pairs {base : Nat} {v : Value} {d : DataW H} {ps : List MemPlace} (hval : Value.okWide Try.prog w .any base 41 v) (h : DataW.Trod enc Try.prog w 0 (fun _ => true) true 41 v d ps) (hw : (d.weights Try.prog 41).all (· ≤ reachBytes) = true) :
    ∃ l : List Pr, OldP w.heap.size w v l ∧ wfP l ∧ l.length * 24 ≤ 140737488351232 := by
  have hw' : ∀ x ∈ d.weights Try.prog 41, x ≤ reachBytes := fun x hx => by simpa using List.all_eq_true.1 hw x hx
  obtain ⟨a1, len1, cap1, rfl⟩ := okWide_slice Try.underlying41 hval
  obtain ⟨fuel, hf⟩ := h
  exact open_pairsP (x := (d, ps)) (by simpa [Value.cells] using hf) hw'
set_option maxRecDepth 100000 in
/-- Lists of pairs that came in. -/
theorem open_foldsP {v : Value} {x : DataW H × List MemPlace} {fuel : Nat} (hf : DataW.trod enc Try.prog w 0 (fun _ => true) true fuel 31 [v] = some x) (hw : ∀ y ∈ x.1.weights Try.prog 31, y ≤ reachBytes) :
    ∃ l : List (List Pr), OldF w.heap.size w v l ∧ (∀ p ∈ l, wfP p ∧ p.length * 24 ≤ 140737488351232) ∧ l.length * 24 ≤ 140737488351232 := by
  rcases open_slice Try.underlying31 hf with ⟨hcs, hx⟩ | ⟨a, len, cap, m, n, D, Pl, hcs, hb, hl, hm, hmm, hx, hi⟩
  · obtain rfl : v = .slice none 0 0 := by simpa using hcs
    exact ⟨[], FoldsAt.nil _ _, by simp, by simp⟩
  · obtain rfl : v = .slice (some a) len cap := by simpa using hcs
    obtain rfl : m = cap := by simpa using hmm
    subst hx
    have hC : Try.prog.cellsOf 41 = 1 := by kernel_rfl
    have hBy : Try.prog.bytesOf 41 = 24 := by kernel_rfl
    have hreach : reachBytes = 140737488351232 := rfl
    have hwlen : m * 24 ≤ 140737488351232 := by
      have := hw ((((List.range len).map D).length + ((List.range (m - len)).map fun j => D (len + j)).length) * Try.prog.bytesOf 41) (by rw [DataW.weights, Try.underlying31]; exact List.mem_cons_self)
      simp only [List.length_map, List.length_range, hBy, hreach] at this
      omega
    rw [hC] at hi
    have hone : ∀ i, i < len → ∃ p : List Pr, a.spot = none ∧ (∃ u, w.cell? ⟨a.block, a.off + i, none⟩ = some u ∧ OldP w.heap.size w u p) ∧ (wfP p ∧ p.length * 24 ≤ 140737488351232) ∧ a.block < w.heap.size := by
      intro i hil
      have hDm : D i ∈ (List.range len).map D := List.mem_map.2 ⟨i, List.mem_range.2 hil, rfl⟩
      obtain ⟨cs', hc, ht⟩ := hi i (by omega)
      obtain ⟨_, hlen, hat⟩ := World.cells?_some hc
      match cs', hlen with
      | [u], _ =>
        obtain ⟨p, hp, hpw, hpl⟩ := open_pairsP ht (fun z hz => hw z (by
          rw [DataW.weights, Try.underlying31]
          exact List.mem_cons_of_mem _ (List.mem_append_left _ (weightsAll_in hDm hz))))
        have c0 := hat 0 (by omega)
        obtain ⟨cs0, hc0, ht0⟩ := hi 0 (by omega)
        obtain ⟨_, hlen0, hat0⟩ := World.cells?_some hc0
        match cs0, hlen0 with
        | [u0], _ =>
        have hD0 : D 0 ∈ (List.range len).map D := List.mem_map.2 ⟨0, List.mem_range.2 (by omega), rfl⟩
        obtain ⟨p0, hp0, _, _⟩ := open_pairsP ht0 (fun z hz => hw z (by
          rw [DataW.weights, Try.underlying31]
          exact List.mem_cons_of_mem _ (List.mem_append_left _ (weightsAll_in hD0 hz))))
        have d0 := hat0 0 (by omega)
        obtain ⟨A0, cap0, rfl, _⟩ := hp0.form
        obtain ⟨ab, ao, sp⟩ := a
        have hsp : sp = none := by
          have h := World.cell?_spot (d0.trans (rfl : _ = some (Value.slice A0 p0.length cap0)))
          simpa [Addr.add] using h
        subst hsp
        rw [Addr.add_lit, Addr.add_lit] at c0
        have e1 : ao + i * 1 + 0 = ao + i := by omega
        rw [e1] at c0
        exact ⟨p, rfl, ⟨_, c0, hp⟩, ⟨hpw, hpl⟩, block_lt_cell c0⟩
    obtain ⟨X, hX⟩ := Classical.axiomOfChoice (r := fun (i : Nat) (p : List Pr) => i < len → a.spot = none ∧ (∃ u, w.cell? ⟨a.block, a.off + i, none⟩ = some u ∧ OldP w.heap.size w u p) ∧ (wfP p ∧ p.length * 24 ≤ 140737488351232) ∧ a.block < w.heap.size) (fun i => by
      by_cases h : i < len
      · obtain ⟨x, hx⟩ := hone i h
        exact ⟨x, fun _ => hx⟩
      · exact ⟨[], fun h' => absurd h' h⟩)
    have hget : ∀ (j : Nat) (x : List Pr), ((List.range len).map X)[j]? = some x → j < len ∧ X j = x := by
      intro j x hx
      rw [List.getElem?_map] at hx
      by_cases hj : j < len
      · rw [List.getElem?_range hj] at hx
        exact ⟨hj, by simpa using hx⟩
      · rw [List.getElem?_eq_none (by simp; omega)] at hx
        simp at hx
    refine ⟨(List.range len).map X, ⟨some a, m, by simp, by simpa using hl, (fun h => by cases h), fun hp => ?_⟩, fun y hy => ?_, by simp; omega⟩
    · have hp' : 0 < len := by simpa using hp
      obtain ⟨hs, _, _, hb⟩ := hX 0 hp'
      obtain ⟨ab, ao, spot⟩ := a
      obtain rfl : spot = none := hs
      refine ⟨ab, ao, rfl, hb, fun j x hx => ?_⟩
      obtain ⟨hj, rfl⟩ := hget j x hx
      exact (hX j hj).2.1
    · obtain ⟨j, hj, rfl⟩ := List.mem_map.1 hy
      exact (hX j (List.mem_range.1 hj)).2.2.1
set_option maxRecDepth 100000 in
/-- A state that came in. -/
theorem open_state {base : Nat} {v : Value} {d : DataW H} {ps : List MemPlace} (hval : Value.okWide Try.prog w .any base 33 v) (h : DataW.Trod enc Try.prog w 0 (fun _ => true) true 33 v d ps) (hw : (d.weights Try.prog 33).all (· ≤ reachBytes) = true) :
    ∃ (l : List (List Pr)) (u : Value), v = .agg #[u] ∧ OldF w.heap.size w u l ∧ (∀ p ∈ l, wfP p ∧ p.length * 24 ≤ 140737488351232) ∧ l.length * 24 ≤ 140737488351232 := by
  have hC : Try.prog.cellsOf 33 = 1 := by kernel_rfl
  have ko : Try.prog.cellsOf 31 = 1 := by kernel_rfl
  have hw' : ∀ x ∈ d.weights Try.prog 33, x ≤ reachBytes := fun x hx => by simpa using List.all_eq_true.1 hw x hx
  obtain ⟨cs, rfl, hsz⟩ := okWide_struct Try.underlying33 hval
  obtain ⟨l⟩ := cs
  match l, hsz.trans hC with
  | [q0], _ =>
    obtain ⟨fuel, hf⟩ := h
    obtain ⟨gs, n2, _, gy, _, glen, gg⟩ := DataW.trod_struct Try.underlying33 hf
    match gs, glen with
    | [g0], _ =>
      have gy1 : d = _ := congrArg Prod.fst gy
      have b0 : DataW.trod enc Try.prog w 0 (fun _ => true) true n2 31 [q0] = some g0 := by have := gg 0 _ rfl; simpa [Value.cells, ko] using this
      have hwg : d.weights Try.prog 33 = g0.1.weights Try.prog 31 ++ [] := by
        rw [gy1]
        simp only [List.map_cons, List.map_nil]
        rw [DataW.weights, Try.underlying33]
        simp [DataW.weightsEach]
      rw [hwg] at hw'
      obtain ⟨ops, hO, hOw, hOl⟩ := open_foldsP b0 (fun z hz => hw' z (by simp [hz]))
      exact ⟨ops, q0, rfl, hO, hOw, hOl⟩
end

end Go.Proofs.Ytmfndimejnbgkaa.Model
