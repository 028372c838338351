/-
  The parts that are open, in their block; an item is put behind a part's items.
-/
import Derived.Test.YtffehnojcajhiaaWireHead
import Derived.Test.YtffehnojcajhiaaWireItemList
import Derived.Test.YtffehnojcajhiaaCells
import Derived.Deep.RegionLaw
namespace Go.Proofs.Ytffehnojcajhiaa.Wire
open Go Go.RowKit Go.Proofs.Ytffehnojcajhiaa.Law

/-- The block of the parts: 18 cells. -/
def PB (W : World) (pb : Nat) (f : Nat → Value) : Prop := ∀ i, i < 18 → W.cell? ⟨pb, i, none⟩ = some (f i) ∧ W.frozen? ⟨pb, i, none⟩ = false
theorem PB.keep {W W' : World} {pb : Nat} {f : Nat → Value} (h : PB W pb f) (hb : W'.heap[pb]? = W.heap[pb]?) : PB W' pb f := fun i hi => by
  obtain ⟨h1, h2⟩ := h i hi
  exact ⟨(by simp only [World.cell?, hb] at h1 ⊢; exact h1), (by simp only [World.frozen?, hb] at h2 ⊢; exact h2)⟩
theorem PB.lt {W : World} {pb : Nat} {f : Nat → Value} (h : PB W pb f) : pb < W.heap.size := block_lt_cell (h 0 (by omega)).1
theorem PB.set {W : World} {pb : Nat} {f : Nat → Value} (h : PB W pb f) (k : Nat) (hk : k < 18) (v : Value) : PB (W.setCell ⟨pb, k, none⟩ v) pb (fun j => if j = k then v else f j) := fun i hi => by
  obtain ⟨h1, h2⟩ := h i hi
  refine ⟨?_, by rw [World.frozen?_setCell]; exact h2⟩
  by_cases hik : i = k
  · subst hik
    dsimp only
    rw [if_pos rfl]; exact World.cell?_setCell_same _ _ _ h1
  · dsimp only
    rw [if_neg hik, World.cell?_setCell_other _ _ _ _ (fun e => hik (by simpa using e.symm))]
    exact h1

theorem flat_last (l : List Item) (z x : Item) (val : Nat → Value) (u : Value) :
    (((((flat (l ++ [z]) val).set (l.length * 4) (.int .i64 x.kind)).set (l.length * 4 + 1) (.int .i64 x.n)).set (l.length * 4 + 2) (.string x.s)).set (l.length * 4 + 3) u) = flat (l ++ [x]) (fun j => if j = l.length then u else val j) := by
  have h := flat_length l val
  rw [flat_append, flat_append]
  rw [flat_congr l (fun j => if j = l.length then u else val j) val (fun j hj => by rw [if_neg (by omega)])]
  simp only [flat]
  rw [← h]
  simp [List.set_append_right]

/-- The last item is written over. -/
theorem Grow.fill {lo hi g cap : Nat} {W : World} {l : List Item} {z : Item} (h : Grow lo hi W (.slice (some ⟨g, 0, none⟩) (l.length + 1) cap) (l ++ [z])) (x : Item) (u : Value) (hu : Items (fun b => lo ≤ b ∧ b < hi ∧ b ≠ g) W u x.kids) :
    Grow lo hi ((((W.setCell ⟨g, l.length * 4, none⟩ (.int .i64 x.kind)).setCell ⟨g, l.length * 4 + 1, none⟩ (.int .i64 x.n)).setCell ⟨g, l.length * 4 + 2, none⟩ (.string x.s)).setCell ⟨g, l.length * 4 + 3, none⟩ u) (.slice (some ⟨g, 0, none⟩) (l.length + 1) cap) (l ++ [x]) := by
  obtain ⟨h3, h0, val, h1, h2⟩ := h
  have hone : u.oneCell' = true := by obtain ⟨A, c, hue, _⟩ := hu.form; rw [hue]; rfl
  have hl : (l ++ [z]).length = l.length + 1 := by simp
  have hl2 : (l ++ [x]).length = l.length + 1 := by simp
  have hw : ∀ b, b ≠ g → ((((W.setCell ⟨g, l.length * 4, none⟩ (.int .i64 x.kind)).setCell ⟨g, l.length * 4 + 1, none⟩ (.int .i64 x.n)).setCell ⟨g, l.length * 4 + 2, none⟩ (.string x.s)).setCell ⟨g, l.length * 4 + 3, none⟩ u).heap[b]? = W.heap[b]? := fun b hb => by
    rw [Below.heap_setCell _ _ _ _ hb, Below.heap_setCell _ _ _ _ hb, Below.heap_setCell _ _ _ _ hb, Below.heap_setCell _ _ _ _ hb]
  refine ⟨by simpa [World.setCell] using h3, h0, fun j => if j = l.length then u else val j, ⟨?_, fun j hj => ?_⟩, fun j y hy => ?_⟩
  · have r := h1.1
    rw [hl] at r
    have r1 := (r.stored (l.length * 4) (.int .i64 x.kind)).1
    have r2 := (r1.stored (l.length * 4 + 1) (.int .i64 x.n)).1
    have r3 := (r2.stored (l.length * 4 + 2) (.string x.s)).1
    have r4 := (r3.stored (l.length * 4 + 3) u).1
    rw [flat_last] at r4
    rw [hl2]
    exact r4
  · dsimp only
    split
    · exact hone
    · exact h1.2 j (by rw [hl2] at hj; rw [hl]; exact hj)
  · dsimp only
    split
    · rename_i hj
      subst hj
      have : y = x := by simpa using hy.symm
      subst this
      exact hu.keep (fun b hb => hw b hb.2.2) (fun b hb => ⟨hb.1, hb.2.1, fun e => hb.2.2 (by simpa [Value.ownBlock] using e.symm)⟩)
    · rename_i hj
      have hj2 : j < l.length := by
        have := (List.getElem?_eq_some_iff.1 hy).1
        rw [hl2] at this; omega
      rw [List.getElem?_append_left hj2] at hy
      exact (h2 j y (by rw [List.getElem?_append_left hj2]; exact hy)).keep (fun b hb => hw b (fun e => hb.2.2 (by simp [Value.ownBlock, e]))) (fun b hb => hb)

/-- What put leaves. -/
def PutDone (W : World) (pb d lo : Nat) (f : Nat → Value) (v : Value) (n : Int) (l : List Item) (W' : World) : Prop :=
  ∃ v', PB W' pb (fun j => if j = d * 2 + 1 then .int .i64 (n - 1) else if j = d * 2 then v' else f j) ∧ Grow lo W'.heap.size W' v' l ∧ W.os = W'.os ∧ W.tape = W'.tape ∧ W.output = W'.output ∧ W.heap.size ≤ W'.heap.size ∧
    ∀ k, k < W.heap.size → k ≠ pb → v.ownBlock ≠ some k → W'.heap[k]? = W.heap[k]?

/-- The zero item. -/
abbrev zeroI : Item := .mk 0 0 noT []

/-- The append of put, and what lies behind it. -/
theorem put_append {W : World} {lo hi : Nat} {v : Value} {acc : List Item} (hG : Grow lo hi W v acc) (hlo : lo ≤ hi) (hroom : acc.length ≤ 5000) (ty : TypeId) (o : Obj) :
    ∃ g cap W1, (Builtin.append_ #[51, 51] ty #[v, .slice (some ⟨W.heap.size + 1, 0, none⟩) 1 1]).run Try.prog (((W.alloc o).drew).alloc (.cells #[.int .i64 0, .int .i64 0, .string ⟨#[]⟩, .slice none 0 0] 71)) = .ok (.slice (some ⟨g, 0, none⟩) (acc.length + 1) cap) W1 ∧
      Grow lo W1.heap.size W1 (.slice (some ⟨g, 0, none⟩) (acc.length + 1) cap) (acc ++ [zeroI]) ∧ W.grownBy W1 v.ownBlock ∧ (v.ownBlock = some g ∨ W.heap.size ≤ g) ∧ lo ≤ g := by
  have hz : hi ≤ W.heap.size := hG.1
  have hgo := hG.own
  have hG2 : Grow lo (W.heap.size + 1) (W.alloc o).drew v acc := hG.keep (fun b _ hb => Below.heap_alloc _ _ _ (by omega)) (by omega) (by simp)
  obtain ⟨v', W1, hrun, hG1, hgr, hor⟩ := hG2.append (by omega) zeroI (.slice none 0 0) (.nil none 0 _ (fun _ => rfl) rfl) ty (by omega)
  obtain ⟨A, cap, hv', _⟩ := hG1.form
  have hl : (acc ++ [zeroI]).length = acc.length + 1 := by simp
  rw [hl] at hv'
  have hgo1 := hG1.own
  obtain ⟨_, _, val, hO, _⟩ := id hG1
  rcases hO.1.2 with ⟨hnil, hz0⟩ | ⟨g, cap', cur, hv2, _⟩
  · rw [hl] at hz0; omega
  · rw [hl] at hv2
    subst hv2
    have hsz1 : ((W.alloc o).drew).heap.size = W.heap.size + 1 := by simp
    refine ⟨g, cap', W1, ?_, hG1, ?_, ?_, (hgo1 g rfl).1⟩
    · rw [hsz1] at hrun
      exact hrun
    · refine ⟨hgr.os, hgr.tape, hgr.output, by have := hgr.size; simp at this; omega, fun k hk hne => (hgr.block k (by rw [hsz1]; omega) hne).trans (Below.heap_alloc _ _ _ hk)⟩
    · rcases hor with h1 | h1
      · exact .inl h1.symm
      · right
        rw [hsz1] at h1
        simp only [Value.ownBlock, Option.some.injEq] at h1
        omega

theorem put_done {W W1 : World} {pb d lo g cap : Nat} {f : Nat → Value} {v u : Value} {n : Int} {acc : List Item} {x : Item} (hPB : PB W pb f) (hd : d ≤ 8) (hpb : pb < lo) (hown : ∀ b, v.ownBlock = some b → lo ≤ b) (hlg : lo ≤ g)
    (hG1 : Grow lo W1.heap.size W1 (.slice (some ⟨g, 0, none⟩) (acc.length + 1) cap) (acc ++ [zeroI])) (hgr : W.grownBy W1 v.ownBlock) (hor : v.ownBlock = some g ∨ W.heap.size ≤ g)
    (hu : Items (fun b => lo ≤ b ∧ b < W.heap.size ∧ v.ownBlock ≠ some b) W u x.kids) {W' : World}
    (hW' : W' = (((((((W1.setCell ⟨g, acc.length * 4, none⟩ (.int .i64 x.kind)).setCell ⟨g, acc.length * 4 + 1, none⟩ (.int .i64 x.n)).setCell ⟨g, acc.length * 4 + 2, none⟩ (.string x.s)).setCell ⟨g, acc.length * 4 + 3, none⟩ u).setCell ⟨pb, d * 2, none⟩ (.slice (some ⟨g, 0, none⟩) (acc.length + 1) cap)).setCell ⟨pb, d * 2 + 1, none⟩ (.int .i64 (n - 1))))) :
    PutDone W pb d lo f v n (acc ++ [x]) W' := by
  have hpl := hPB.lt
  have hfill := hG1.fill x u (hu.keep (fun b hb => hgr.block b hb.2.1 (fun e => hb.2.2 e.symm)) (fun b hb => ⟨hb.1, by have := hgr.size; omega, fun e => by
    rcases hor with h | h
    · exact hb.2.2 (by rw [h, e])
    · omega⟩))
  have hPB1 : PB W1 pb f := hPB.keep (hgr.block pb hpl (fun e => by have := hown pb e.symm; omega))
  have hgp : pb ≠ g := by omega
  have hPB2 := PB.keep (W' := ((((W1.setCell ⟨g, acc.length * 4, none⟩ (.int .i64 x.kind)).setCell ⟨g, acc.length * 4 + 1, none⟩ (.int .i64 x.n)).setCell ⟨g, acc.length * 4 + 2, none⟩ (.string x.s)).setCell ⟨g, acc.length * 4 + 3, none⟩ u)) hPB1 (by
    rw [Below.heap_setCell _ _ _ _ hgp, Below.heap_setCell _ _ _ _ hgp, Below.heap_setCell _ _ _ _ hgp, Below.heap_setCell _ _ _ _ hgp])
  have hPB3 := (hPB2.set (d * 2) (by omega) (.slice (some ⟨g, 0, none⟩) (acc.length + 1) cap)).set (d * 2 + 1) (by omega) (.int .i64 (n - 1))
  rw [← hW'] at hPB3
  have hsz : W'.heap.size = W1.heap.size := by rw [hW']; simp [World.setCell]
  have hB0 : Below 0 W1 W' := by
    rw [hW']
    exact ((((((Below.refl 0 W1).setCell (Nat.zero_le _) _).setCell (Nat.zero_le _) _).setCell (Nat.zero_le _) _).setCell (Nat.zero_le _) _).setCell (Nat.zero_le _) _).setCell (Nat.zero_le _) _
  refine ⟨.slice (some ⟨g, 0, none⟩) (acc.length + 1) cap, hPB3, ?_, ?_, ?_, ?_, ?_, fun k hk hne hno => ?_⟩
  · refine hfill.keep (fun b hb _ => ?_) (by rw [hsz]; exact Nat.le_refl _) (Nat.le_refl _)
    rw [hW', Below.heap_setCell _ _ _ _ (by show b ≠ pb; omega), Below.heap_setCell _ _ _ _ (by show b ≠ pb; omega)]
  · exact (hB0.os.trans hgr.os).symm
  · exact (hB0.tape.trans hgr.tape).symm
  · exact (hB0.output.trans hgr.output).symm
  · rw [hsz]; exact hgr.size
  · have hkg : k ≠ g := fun e => by
      rcases hor with h | h
      · exact hno (by rw [h, e])
      · omega
    rw [hW', Below.heap_setCell _ _ _ _ hne, Below.heap_setCell _ _ _ _ hne, Below.heap_setCell _ _ _ _ hkg, Below.heap_setCell _ _ _ _ hkg, Below.heap_setCell _ _ _ _ hkg, Below.heap_setCell _ _ _ _ hkg]
    exact hgr.block k hk (fun e => hno e.symm)

set_option maxRecDepth 100000 in
set_option maxHeartbeats 4000000 in
theorem put_calls (x : Item) (Au : Option Addr) (lu cu pb d lo hi : Nat) (f : Nat → Value) (v : Value) (n : Int) (acc : List Item) (W : World) (hPB : PB W pb f) (hd : d ≤ 8) (h0 : f (d * 2) = v) (h1 : f (d * 2 + 1) = .int .i64 n)
    (hn : -9223372036854775807 ≤ n ∧ n ≤ 9223372036854775807) (hG : Grow lo hi W v acc) (hlo : lo ≤ hi) (hpb : pb < lo) (hroom : acc.length ≤ 5000)
    (hu : Items (fun b => lo ≤ b ∧ b < W.heap.size ∧ v.ownBlock ≠ some b) W (.slice Au lu cu) x.kids) :
    Calls Try.prog 56 #[.pointer (some ⟨pb, d * 2, none⟩), aggOf x (.slice Au lu cu)] W fun e W' => e = .returned (.tuple #[]) ∧ PutDone W pb d lo f v n (acc ++ [x]) W' := by
  have hown := hG.own
  obtain ⟨g, cap, W1, hrun, hG1, hgr, hor, hlg⟩ := put_append hG hlo hroom 51 (.cells #[.int .i64 x.kind, .int .i64 x.n, .string x.s, .slice Au lu cu] 71)
  obtain ⟨A, cap0, rfl, _⟩ := hG.form
  obtain ⟨len, hlen⟩ : ∃ len, acc.length = len := ⟨_, rfl⟩
  rw [hlen] at hrun
  have hc0 := (hPB (d * 2) (by omega)).1
  have hc1 := (hPB (d * 2 + 1) (by omega)).1
  have hz0 := (hPB (d * 2) (by omega)).2
  have hz1 := (hPB (d * 2 + 1) (by omega)).2
  rw [h0, hlen] at hc0
  rw [h1] at hc1
  have HRUN := Lib.hid hrun
  have hpl := hPB.lt
  have hPB1 : PB W1 pb f := hPB.keep (hgr.block pb hpl (fun e => by have := hown pb e.symm; omega))
  have hc0' := (hPB1 (d * 2) (by omega)).1
  have hc1' := (hPB1 (d * 2 + 1) (by omega)).1
  have hz0' := (hPB1 (d * 2) (by omega)).2
  have hz1' := (hPB1 (d * 2 + 1) (by omega)).2
  rw [h0, hlen] at hc0'
  rw [h1] at hc1'
  obtain ⟨_, _, val, hO, _⟩ := id hG1
  have hcell := hO.cells (by simp) (j := acc.length) (x := zeroI) (by simp)
  obtain ⟨⟨i0, i1, i2, i3⟩, hfz⟩ := hcell
  rw [hlen] at i0 i1 i2 i3
  have j0 := hfz (len * 4)
  have j1 := hfz (len * 4 + 1)
  have j2 := hfz (len * 4 + 2)
  have j3 := hfz (len * 4 + 3)
  have hgp : ¬ g = pb := by omega
  have hpg : ¬ pb = g := by omega
  have hWp : ¬ pb = W.heap.size := by omega
  have hlenI : (len : Int) ≤ 5000 := by omega
  have hltI : (len : Int) < (len : Int) + 1 := by omega
  have hcapI : len ≤ cap0 := by rename_i h; omega
  have HDONE := fun W' => Lib.hid (put_done (W' := W') (x := x) (u := .slice Au lu cu) (n := n) hPB hd hpb (fun b hb => (hown b hb).1) hlg hG1 hgr hor hu)
  rw [hlen] at HDONE ⊢
  clear hrun hG hG1 hgr hor hu hown hO hfz hPB hPB1 h0 h1 hlen
  unfold aggOf
  go_enter Try.func56, Try.ntmps56
  go_wp2_with fail
  go_region_law (refine step_append_ran rfl _ _ _ rfl rfl rfl HRUN.out ?_)
  all_goals clear HRUN hc0 hc1 hz0 hz1
  all_goals
    go_wp2
    go_end0
    refine ⟨rfl, (HDONE _).out ?_⟩
    first
    | with_reducible rfl
    | rw [setCell_swap _ ⟨pb, d * 2, none⟩ ⟨g, len * 4, none⟩ _ _ hpg, setCell_swap _ ⟨pb, d * 2, none⟩ ⟨g, len * 4 + 1, none⟩ _ _ hpg, setCell_swap _ ⟨pb, d * 2, none⟩ ⟨g, len * 4 + 2, none⟩ _ _ hpg, setCell_swap _ ⟨pb, d * 2, none⟩ ⟨g, len * 4 + 3, none⟩ _ _ hpg]

end Go.Proofs.Ytffehnojcajhiaa.Wire
