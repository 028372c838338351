/-
  A slice of items that came in: it reads as items, which are of a size that can lie in memory.
-/
import Derived.Test.YtjahkbomminglaaWireCopied
import Derived.Test.YtjahkbomminglaaRows
import Derived.Deep.Slices
import Derived.ChangeSame
namespace Go.Proofs.Ytjahkbomminglaa.Wire
open Go Go.RowKit Go.ChangeShapes Go.WideShapes Go.Deep Go.Proofs.Ytjahkbomminglaa.Law

theorem sizeOf_slice {H : Type} {d : DataW H} {elems spare : List (DataW H)} (h : d ∈ elems) : SizeOf.sizeOf d < SizeOf.sizeOf (DataW.slice elems spare) := by
  have := List.sizeOf_lt_of_mem h
  simp only [DataW.slice.sizeOf_spec]
  omega
theorem sizeOf_agg {H : Type} {d : DataW H} {parts : List (DataW H)} (h : d ∈ parts) : SizeOf.sizeOf d < SizeOf.sizeOf (DataW.agg parts) := by
  have := List.sizeOf_lt_of_mem h
  simp only [DataW.agg.sizeOf_spec]
  omega
theorem weightsAll_mem {H : Type} {P : Program} {e : TypeId} {d : DataW H} {x : Nat} : ∀ {ds : List (DataW H)}, d ∈ ds → x ∈ d.weights P e → x ∈ DataW.weightsAll P e ds
  | [], h, _ => by simp at h
  | y :: r, h, hx => by
    rw [DataW.weightsAll]
    rcases List.mem_cons.1 h with rfl | h
    · exact List.mem_append_left _ hx
    · exact List.mem_append_right _ (weightsAll_mem h hx)

/-- All of a reading's items lie in memory that there is. -/
def Fits (l : List Item) : Prop := sizedL l ∧ roomyL l ∧ l.length * 56 ≤ 140737488351232

theorem sizedL_of : ∀ {l : List Item}, (∀ (j : Nat) (x : Item), l[j]? = some x → x.sized) → sizedL l
  | [], _ => by rw [sizedL]; trivial
  | x :: r, h => by rw [sizedL]; exact ⟨h 0 x rfl, sizedL_of (fun j y hy => h (j + 1) y (by simpa using hy))⟩
theorem roomyL_of : ∀ {l : List Item}, (∀ (j : Nat) (x : Item), l[j]? = some x → x.kids.length * 56 ≤ 140737488355328 ∧ roomyL x.kids) → roomyL l
  | [], _ => by rw [roomyL]; trivial
  | x :: r, h => by
    rw [roomyL]
    refine ⟨?_, roomyL_of (fun j y hy => h (j + 1) y (by simpa using hy))⟩
    have := h 0 x rfl
    cases x; rw [Item.roomy]; exact this

def noBytes : ByteArray := ⟨#[]⟩

section
variable {H : Type} {enc : TypeId × Value → H} {w : World}

theorem open_items : ∀ (N : Nat) (d : DataW H), SizeOf.sizeOf d < N → ∀ (v : Value) (ps : List MemPlace) (fuel : Nat), DataW.trod enc Try.prog w 0 (fun _ => true) true fuel 22 [v] = some (d, ps) → (∀ x ∈ d.weights Try.prog 22, x ≤ reachBytes) →
    ∃ l : List Item, Old w.heap.size w v l ∧ Fits l := by
  intro N
  induction N with
  | zero => exact fun _ h => absurd h (Nat.not_lt_zero _)
  | succ N ih =>
    intro d hd v ps fuel h hw
    rcases open_slice Try.underlying22 h with ⟨hcs, hx⟩ | ⟨a, len, cap, m, n, D, Pl, hcs, hb, hl, hm, hmm, hx, hi⟩
    · obtain rfl : v = .slice none 0 0 := by simpa using hcs
      exact ⟨[], .nil none 0 [] (fun _ => rfl) rfl, by rw [sizedL]; trivial, by rw [roomyL]; trivial, by simp⟩
    · obtain rfl : v = .slice (some a) len cap := by simpa using hcs
      obtain rfl : m = cap := by simpa using hmm
      simp only [Prod.mk.injEq] at hx
      obtain ⟨rfl, _⟩ := hx
      have hC : Try.prog.cellsOf 40 = 4 := by kernel_rfl
      have hBy : Try.prog.bytesOf 40 = 56 := by kernel_rfl
      have hreach : reachBytes = 140737488351232 := rfl
      have hwlen : m * 56 ≤ 140737488351232 := by
        have := hw ((((List.range len).map D).length + ((List.range (m - len)).map fun j => D (len + j)).length) * Try.prog.bytesOf 40) (by rw [DataW.weights, Try.underlying22]; exact List.mem_cons_self)
        simp only [List.length_map, List.length_range, hBy, hreach] at this
        omega
      have hone : ∀ i, i < len → ∃ (x : Item) (u : Value), (a.spot = none → Cells4 w a.block (a.off + i * 4) x u) ∧ a.spot = none ∧ x.sized ∧ Old w.heap.size w u x.kids ∧ x.kids.length * 56 ≤ 140737488355328 ∧ roomyL x.kids ∧ a.block < w.heap.size := by
        intro i hi'
        have hDm : D i ∈ (List.range len).map D := List.mem_map.2 ⟨i, List.mem_range.2 hi', rfl⟩
        have hDs : SizeOf.sizeOf (D i) < N := by
          have := sizeOf_slice (spare := (List.range (m - len)).map fun j => D (len + j)) hDm
          omega
        have hDw : ∀ x ∈ (D i).weights Try.prog 40, x ≤ reachBytes := fun x hx => hw x (by
          rw [DataW.weights, Try.underlying22]
          exact List.mem_cons_of_mem _ (List.mem_append_left _ (weightsAll_mem hDm hx)))
        obtain ⟨cs', hc, ht⟩ := hi i (by omega)
        rw [hC] at hc
        obtain ⟨xs, n', _, hy, hcl, hxl, hf⟩ := DataW.trod_struct Try.underlying40 ht
        obtain ⟨_, hlen4, hat⟩ := World.cells?_some hc
        simp only [Prod.mk.injEq] at hy
        match cs', hlen4 with
        | [q0, q1, q2, q3], _ =>
          match xs, hxl with
          | [y0, y1, y2, y3], _ =>
            have k3 : Try.prog.cellsOf 3 = 1 := by kernel_rfl
            have k9 : Try.prog.cellsOf 9 = 1 := by kernel_rfl
            have k22 : Try.prog.cellsOf 22 = 1 := by kernel_rfl
            have f0 : DataW.trod enc Try.prog w 0 (fun _ => true) true n' 3 [q0] = some y0 := by have := hf 0 _ rfl; simpa [k3] using this
            have f1 : DataW.trod enc Try.prog w 0 (fun _ => true) true n' 3 [q1] = some y1 := by have := hf 1 _ rfl; simpa [k3] using this
            have f2 : DataW.trod enc Try.prog w 0 (fun _ => true) true n' 9 [q2] = some y2 := by have := hf 2 _ rfl; simpa [k9] using this
            have f3 : DataW.trod enc Try.prog w 0 (fun _ => true) true n' 22 [q3] = some y3 := by have := hf 3 _ rfl; simpa [k22] using this
            have c0 := hat 0 (by omega)
            have c1 := hat 1 (by omega)
            have c2 := hat 2 (by omega)
            have c3 := hat 3 (by omega)
            obtain ⟨z0, e0, -, wf0⟩ := DataW.trod_int Try.underlying3 f0
            obtain ⟨z1, e1, -, wf1⟩ := DataW.trod_int Try.underlying3 f1
            obtain ⟨s2, e2, hs2, -⟩ := DataW.trod_string Try.underlying9 f2
            obtain rfl : q0 = .int .i64 z0 := by simpa using e0
            obtain rfl : q1 = .int .i64 z1 := by simpa using e1
            obtain rfl : q2 = .string s2 := by simpa using e2
            have hparts : D i = DataW.agg [y0.1, y1.1, y2.1, y3.1] := by simpa using hy.1
            rw [hparts] at hDs hDw
            have hd3 : SizeOf.sizeOf y3.1 < SizeOf.sizeOf (DataW.agg [y0.1, y1.1, y2.1, y3.1]) := sizeOf_agg (by simp)
            have hwd : (DataW.agg [y0.1, y1.1, y2.1, y3.1]).weights Try.prog 40 = y0.1.weights Try.prog 3 ++ (y1.1.weights Try.prog 3 ++ (y2.1.weights Try.prog 9 ++ (y3.1.weights Try.prog 22 ++ []))) := by
              rw [DataW.weights, Try.underlying40]
              simp [DataW.weightsEach]
            rw [hwd] at hDw
            have hw3 : ∀ x ∈ y3.1.weights Try.prog 22, x ≤ reachBytes := fun x hx => hDw x (by simp [hx])
            have hw2 : s2.size ≤ 140737488351232 := by
              have := hDw s2.data.toList.length (by rw [hs2]; simp [DataW.weights])
              rw [hreach, Array.length_toList] at this
              exact this
            obtain ⟨lk, hIk, hFk⟩ := ih y3.1 (by omega) q3 y3.2 n' f3 hw3
            have hspot : a.spot = none := by
              obtain ⟨cs0, hc0, _⟩ := hi 0 (by omega)
              rw [hC] at hc0
              obtain ⟨_, hl0, ha0⟩ := World.cells?_some hc0
              match cs0, hl0 with
              | [p0, p1, p2, p3], _ =>
                have h := World.cell?_spot ((ha0 0 (by omega)).trans (rfl : _ = some p0))
                simpa [Addr.add] using h
            obtain ⟨ab, ao, sp⟩ := a
            obtain rfl : sp = none := hspot
            rw [Addr.add_lit, Addr.add_lit] at c0 c1 c2 c3
            have w0 := i64_wf wf0
            have w1 := i64_wf wf1
            have hlk := hFk.2.2
            exact ⟨.mk z0 z1 s2 lk, q3, fun _ => ⟨c0, c1, c2, c3⟩, rfl, by rw [Item.sized]; exact ⟨w0.1, w0.2, w1.1, w1.2, by omega, by omega, hFk.1⟩, hIk, by simp only [Item.kids]; omega, hFk.2.1, block_lt_cell c0⟩
      obtain ⟨X, hX⟩ := Classical.axiomOfChoice (r := fun (i : Nat) (x : Item) => i < len → ∃ u, (a.spot = none → Cells4 w a.block (a.off + i * 4) x u) ∧ a.spot = none ∧ x.sized ∧ Old w.heap.size w u x.kids ∧ x.kids.length * 56 ≤ 140737488355328 ∧ roomyL x.kids ∧ a.block < w.heap.size) (fun i => by
        by_cases h : i < len
        · obtain ⟨x, u, hx⟩ := hone i h
          exact ⟨x, fun _ => ⟨u, hx⟩⟩
        · exact ⟨.mk 0 0 noBytes [], fun h' => absurd h' h⟩)
      obtain ⟨U, hU⟩ := Classical.axiomOfChoice (r := fun (i : Nat) (u : Value) => i < len → (a.spot = none → Cells4 w a.block (a.off + i * 4) (X i) u) ∧ a.spot = none ∧ (X i).sized ∧ Old w.heap.size w u (X i).kids ∧ (X i).kids.length * 56 ≤ 140737488355328 ∧ roomyL (X i).kids ∧ a.block < w.heap.size) (fun i => by
        by_cases h : i < len
        · obtain ⟨u, hu⟩ := hX i h
          exact ⟨u, fun _ => hu⟩
        · exact ⟨.slice none 0 0, fun h' => absurd h' h⟩)
      have hget : ∀ (j : Nat) (x : Item), ((List.range len).map X)[j]? = some x → j < len ∧ X j = x := by
        intro j x hx
        rw [List.getElem?_map] at hx
        by_cases hj : j < len
        · rw [List.getElem?_range hj] at hx
          exact ⟨hj, by simpa using hx⟩
        · rw [List.getElem?_eq_none (by simp; omega)] at hx
          simp at hx
      refine ⟨(List.range len).map X, ?_, sizedL_of (fun j x hx => ?_), roomyL_of (fun j x hx => ?_), by simp; omega⟩
      · rcases Nat.eq_zero_or_pos len with h0 | hpos
        · subst h0
          exact .nil (some a) m _ (fun h => by cases h) rfl
        · have hs := (hU 0 hpos).2.1
          have hbl := (hU 0 hpos).2.2.2.2.2.2
          obtain ⟨ab, ao, sp⟩ := a
          obtain rfl : sp = none := hs
          refine .row ab ao len m _ U (by simp) hl (fun _ => hbl) (fun j x hx => ?_) (fun j x hx => ?_)
          · obtain ⟨hj, rfl⟩ := hget j x hx
            exact (hU j hj).1 rfl
          · obtain ⟨hj, rfl⟩ := hget j x hx
            exact (hU j hj).2.2.2.1
      · obtain ⟨hj, rfl⟩ := hget j x hx
        exact (hU j hj).2.2.1
      · obtain ⟨hj, rfl⟩ := hget j x hx
        exact ⟨(hU j hj).2.2.2.2.1, (hU j hj).2.2.2.2.2.1⟩

theorem open_items_arg {b : Nat} {v : Value} {d : DataW H} {ps : List MemPlace} (hval : Value.okWide Try.prog w .any b 22 v) (h : DataW.Trod enc Try.prog w 0 (fun _ => true) true 22 v d ps) (hw : (d.weights Try.prog 22).all (· ≤ reachBytes) = true) :
    ∃ l : List Item, Old w.heap.size w v l ∧ Fits l := by
  obtain ⟨a1, len, cap, rfl⟩ := okWide_slice Try.underlying22 hval
  obtain ⟨fuel, hf⟩ := h
  exact open_items _ d (Nat.lt_succ_self _) _ ps fuel hf (fun x hx => by simpa using List.all_eq_true.1 hw x hx)
end

end Go.Proofs.Ytjahkbomminglaa.Wire
