/-
  Rows that are the call's own, in blocks of a class: numbers, operators; what a wipe of them keeps. What a wipe of a graph's numbers and kinds keeps: the row of operators, its slices' headers.
-/
import Derived.Test.YtffehnojcajhiaaEgH
namespace Go.Proofs.Ytffehnojcajhiaa.Wire.Entry
open Go Go.RowKit Go.Proofs.Ytffehnojcajhiaa.Law

/-- Ints in a row of its own, in a block of S. -/
def IntsW (S : Nat → Prop) (W : World) (v : Value) (l : List Int) : Prop :=
  (v = .slice none 0 0 ∧ l = []) ∨ ∃ g cap cur, v = .slice (some ⟨g, 0, none⟩) l.length cap ∧ S g ∧ W.heap[g]? = some (.cells cur 3 (0, 0)) ∧ l.length ≤ cap ∧ cap ≤ maxLen ∧ cur.size = cap * 1 ∧ cur.toList.take (l.length * 1) = ivals l
theorem IntsW.nil (S : Nat → Prop) (W : World) : IntsW S W (.slice none 0 0) [] := .inl ⟨rfl, rfl⟩
theorem IntsW.keep {S T : Nat → Prop} {W W' : World} {v : Value} {l : List Int} (h : IntsW S W v l) (hb : ∀ b, S b → W'.heap[b]? = W.heap[b]?) (hST : ∀ b, S b → T b) : IntsW T W' v l := by
  rcases h with h | ⟨g, cap, cur, h1, h2, h3, h4⟩
  · exact .inl h
  · exact .inr ⟨g, cap, cur, h1, hST g h2, (hb g h2).trans h3, h4⟩
theorem IntsW.mono {S T : Nat → Prop} {W : World} {v : Value} {l : List Int} (h : IntsW S W v l) (hST : ∀ b, S b → T b) : IntsW T W v l := h.keep (fun _ _ => rfl) hST
theorem OwnI.intsW {W : World} {base : Nat} {v : Value} {l : List Int} (h : OwnI W base v l) : IntsW (fun k => base ≤ k ∧ k < W.heap.size) W v l := by
  have hlt := fun (g : Nat) (hg : v.ownBlock = some g) => h.own hg
  rcases h.2 with ⟨rfl, hz⟩ | ⟨g, cap, cur, rfl, h1, h2, h3⟩
  · exact .inl ⟨rfl, List.eq_nil_of_length_eq_zero hz⟩
  · exact .inr ⟨g, cap, cur, rfl, hlt g rfl, h2, h3⟩
theorem IntsW.own {S : Nat → Prop} {W : World} {v : Value} {l : List Int} (h : IntsW S W v l) : OwnI W 0 v l := by
  rcases h with ⟨rfl, rfl⟩ | ⟨g, cap, cur, rfl, h2, h3, h4, h5⟩
  · exact OwnI.nil W 0
  · exact ⟨by rw [ivals_length, Nat.mul_one], .inr ⟨g, cap, cur, rfl, Nat.zero_le _, h3, h4, h5⟩⟩
theorem IntsW.toAt {S : Nat → Prop} {W : World} {v : Value} {l : List Int} (h : IntsW S W v l) : IntsAt S W v l := by
  have h0 := h.own.ints
  rcases h with ⟨rfl, rfl⟩ | ⟨g, cap, cur, rfl, h2, h3, h4, h5⟩
  · exact IntsAt.nil S W
  · obtain ⟨A, c, e1, e2, e3, e4⟩ := h0
    refine ⟨A, c, e1, e2, e3, fun hp => ?_⟩
    obtain ⟨b, off, e5, _, e6⟩ := e4 hp
    simp only [Value.slice.injEq] at e1
    obtain ⟨e7, _, _⟩ := e1
    rw [e5] at e7
    simp only [Option.some.injEq, Addr.mk.injEq, and_true] at e7
    exact ⟨b, off, e5, by rw [← e7.1]; exact h2, e6⟩

/-- Operators in a row of its own, their inputs in rows that aren't that one. -/
def OpsW (S : Nat → Prop) (W : World) (v : Value) (l : List Opr) : Prop :=
  ∃ pl : List (Opr × Value), pl.map Prod.fst = l ∧ ((v = .slice none 0 0 ∧ pl = []) ∨ ∃ g cap cur, v = .slice (some ⟨g, 0, none⟩) pl.length cap ∧ S g ∧ W.heap[g]? = some (.cells cur 47 (0, 0)) ∧ pl.length ≤ cap ∧ cap ≤ maxLen ∧ cur.size = cap * 7 ∧ cur.toList.take (pl.length * 7) = flatP pl) ∧
    ∀ p ∈ pl, IntsW (fun b => S b ∧ v.ownBlock ≠ some b) W p.2 p.1.ins
theorem OpsW.nil (S : Nat → Prop) (W : World) : OpsW S W (.slice none 0 0) [] := ⟨[], rfl, .inl ⟨rfl, rfl⟩, fun p h => by cases h⟩
theorem OpsW.keep {S T : Nat → Prop} {W W' : World} {v : Value} {l : List Opr} (h : OpsW S W v l) (hb : ∀ b, S b → W'.heap[b]? = W.heap[b]?) (hST : ∀ b, S b → T b) : OpsW T W' v l := by
  obtain ⟨pl, h1, h2, h3⟩ := h
  refine ⟨pl, h1, ?_, fun p hp => (h3 p hp).keep (fun b h => hb b h.1) (fun b h => ⟨hST b h.1, h.2⟩)⟩
  rcases h2 with h | ⟨g, cap, cur, q1, q2, q3, q4⟩
  · exact .inl h
  · exact .inr ⟨g, cap, cur, q1, hST g q2, (hb g q2).trans q3, q4⟩
theorem OpsW.mono {S T : Nat → Prop} {W : World} {v : Value} {l : List Opr} (h : OpsW S W v l) (hST : ∀ b, S b → T b) : OpsW T W v l := h.keep (fun _ _ => rfl) hST

/-- A growing row of operators. -/
def GrowW (lo : Nat) (W : World) (v : Value) (l : List Opr) : Prop :=
  ∃ pl : List (Opr × Value), pl.map Prod.fst = l ∧ W.ownsRow lo 47 7 v pl.length (flatP pl) ∧ ∀ p ∈ pl, IntsW (fun b => lo ≤ b ∧ b < W.heap.size ∧ v.ownBlock ≠ some b) W p.2 p.1.ins

theorem GrowW.nil (W : World) (lo : Nat) : GrowW lo W (.slice none 0 0) [] := ⟨[], rfl, World.ownsRow_nil W lo 47 7, fun p h => by cases h⟩
theorem GrowW.own {lo : Nat} {W : World} {v : Value} {l : List Opr} (h : GrowW lo W v l) {g : Nat} (hg : v.ownBlock = some g) : lo ≤ g ∧ g < W.heap.size := by
  obtain ⟨pl, _, h2, _⟩ := h
  exact h2.lt g hg
theorem GrowW.form {lo : Nat} {W : World} {v : Value} {l : List Opr} (h : GrowW lo W v l) : ∃ A cap, v = .slice A l.length cap ∧ l.length ≤ cap := by
  obtain ⟨pl, rfl, h2, _⟩ := h
  rw [List.length_map]
  rcases h2.2 with ⟨rfl, hz⟩ | ⟨g, cap, cur, rfl, _, _, hn, _⟩
  · exact ⟨none, 0, by rw [hz], by omega⟩
  · exact ⟨_, cap, rfl, hn⟩
theorem GrowW.keep {lo : Nat} {W W' : World} {v : Value} {l : List Opr} (h : GrowW lo W v l) (hb : ∀ b, lo ≤ b → b < W.heap.size → W'.heap[b]? = W.heap[b]?) (hs : W.heap.size ≤ W'.heap.size) : GrowW lo W' v l := by
  have hown := fun (g : Nat) (hg : v.ownBlock = some g) => h.own hg
  obtain ⟨pl, h1, h2, h3⟩ := h
  refine ⟨pl, h1, ⟨h2.1, ?_⟩, fun p hp => (h3 p hp).keep (fun b h => hb b h.1 h.2.1) (fun b h => ⟨h.1, Nat.lt_of_lt_of_le h.2.1 hs, h.2.2⟩)⟩
  rcases h2.2 with h0 | ⟨g, cap, cur, rfl, q1, q2, q3⟩
  · exact .inl h0
  · exact .inr ⟨g, cap, cur, rfl, q1, (hb g q1 (hown g rfl).2).trans q2, q3⟩
theorem GrowW.below {lo : Nat} {W W' : World} {v : Value} {l : List Opr} (h : GrowW lo W v l) (hB : Below W.heap.size W W') : GrowW lo W' v l := h.keep (fun b _ hb => hB.block b hb) hB.size
theorem GrowW.ops {lo : Nat} {W : World} {v : Value} {l : List Opr} (h : GrowW lo W v l) : OpsW (fun b => lo ≤ b ∧ b < W.heap.size) W v l := by
  have hown := fun (g : Nat) (hg : v.ownBlock = some g) => h.own hg
  obtain ⟨pl, h1, h2, h3⟩ := h
  refine ⟨pl, h1, ?_, fun p hp => (h3 p hp).mono (fun b hb => ⟨⟨hb.1, hb.2.1⟩, hb.2.2⟩)⟩
  rcases h2.2 with ⟨h4, h5⟩ | ⟨g, cap, cur, rfl, q1, q2, q3⟩
  · exact .inl ⟨h4, List.eq_nil_of_length_eq_zero h5⟩
  · exact .inr ⟨g, cap, cur, rfl, hown g rfl, q2, q3⟩
theorem OpsW.toAt {S : Nat → Prop} {W : World} {v : Value} {l : List Opr} (h : OpsW S W v l) : OpsAt S W v l := by
  obtain ⟨pl, rfl, h2, h3⟩ := h
  rcases h2 with ⟨rfl, rfl⟩ | ⟨g, cap, cur, rfl, q1, q2, q3, q4, q5, q6⟩
  · exact OpsAt.nil _ _
  · have hrow : W.ownsRow 0 47 7 (.slice (some ⟨g, 0, none⟩) pl.length cap) pl.length (flatP pl) := ⟨flatP_length pl, .inr ⟨g, cap, cur, rfl, Nat.zero_le _, q2, q3, q4, q5, q6⟩⟩
    have hcell := World.ownsRow.cells hrow (g := g) rfl
    refine ⟨_, cap, by rw [List.length_map], by rw [List.length_map]; exact q3, (fun h => by cases h), fun _ => ⟨g, 0, rfl, q1, fun j x hx => ?_⟩⟩
    rw [List.getElem?_map] at hx
    match hp : pl[j]? with
    | none => rw [hp] at hx; cases hx
    | some p =>
      rw [hp] at hx
      obtain rfl : p.1 = x := by simpa using hx
      have hq : ∀ i u, i < 7 → (cellsP p)[i]? = some u → W.cell? ⟨g, 0 + j * 7 + i, none⟩ = some u := fun i u hi hu => by
        have := hcell (j * 7 + i) u ((flatP_get hp i hi).trans hu)
        rw [Addr.add_lit] at this
        rw [show 0 + j * 7 + i = 0 + (j * 7 + i) by omega]
        exact this
      exact ⟨p.2, ⟨hq 0 _ (by omega) rfl, hq 1 _ (by omega) rfl, hq 2 _ (by omega) rfl, hq 3 _ (by omega) rfl, hq 4 _ (by omega) rfl, hq 5 _ (by omega) rfl, hq 6 _ (by omega) rfl⟩, (h3 p (List.mem_of_getElem? hp)).toAt.mono (fun b hb => hb.1)⟩

/-- One more behind: it lies as a literal in a new block. -/
theorem GrowW.append {lo : Nat} {W : World} {v : Value} {l : List Opr} (h : GrowW lo W v l) (hlo : lo ≤ W.heap.size) (o : Opr) (A : Option Addr) (n c : Nat) (hu : IntsW (fun b => lo ≤ b ∧ b < W.heap.size ∧ v.ownBlock ≠ some b) W (.slice A n c) o.ins) (ty : TypeId) (hroom : (l.length + 1) * 72 ≤ 140737488355328) :
    ∃ v' W', (Builtin.append_ #[25, 25] ty #[v, .slice (some ⟨W.heap.size, 0, none⟩) 1 1]).run Try.prog (W.alloc (.cells #[.int .i64 o.kind, .slice A n c, .int .i64 o.arg, .int .u32 (o.num : Nat), .int .i64 o.rounds, .int .i64 o.test, .int .u32 (o.lim : Nat)] 47)) = .ok v' W' ∧ GrowW lo W' v' (l ++ [o]) ∧ W.grownBy W' v.ownBlock ∧ Below lo W W' := by
  obtain ⟨i0, hi, hz0, hz1, hz2⟩ := info_parts info_op
  have hown := fun (g : Nat) (hg : v.ownBlock = some g) => h.own hg
  have h0 := h.below ((Below.refl _ _).alloc (Nat.le_refl _) (.cells #[.int .i64 o.kind, .slice A n c, .int .i64 o.arg, .int .u32 (o.num : Nat), .int .i64 o.rounds, .int .i64 o.test, .int .u32 (o.lim : Nat)] 47))
  obtain ⟨pl, rfl, h2, h3⟩ := h
  rw [List.length_map] at hroom
  have h2' : (W.alloc (.cells #[.int .i64 o.kind, .slice A n c, .int .i64 o.arg, .int .u32 (o.num : Nat), .int .i64 o.rounds, .int .i64 o.test, .int .u32 (o.lim : Nat)] 47)).ownsRow lo 47 7 v pl.length (flatP pl) := h2.alloc _
  have hf : flatP [((o, .slice A n c) : Opr × Value)] = cellsP (o, .slice A n c) := by rw [flatP, flatP, List.append_nil]
  have hnews : ∀ (j : Nat) (x : Value), (flatP [((o, .slice A n c) : Opr × Value)])[j]? = some x → (W.alloc (.cells #[.int .i64 o.kind, .slice A n c, .int .i64 o.arg, .int .u32 (o.num : Nat), .int .i64 o.rounds, .int .i64 o.test, .int .u32 (o.lim : Nat)] 47)).cell? ((⟨W.heap.size, 0, none⟩ : Addr).add j) = some x := by
    intro j x hx
    rw [hf] at hx
    rw [Addr.add_lit, Nat.zero_add]
    refine cell_new W _ _ j x ?_
    rw [← Array.getElem?_toList]
    exact hx
  have hone : ∀ u ∈ flatP [((o, .slice A n c) : Opr × Value)], u.oneCell' = true := flatP_one (fun p hp => by
    obtain rfl : p = (o, .slice A n c) := by simpa using hp
    rfl)
  obtain ⟨v', W', hrun, g2, g3, _, g5⟩ := run_append_own_at (P := Try.prog) (W.alloc (.cells #[.int .i64 o.kind, .slice A n c, .int .i64 o.arg, .int .u32 (o.num : Nat), .int .i64 o.rounds, .int .i64 o.test, .int .u32 (o.lim : Nat)] 47)) lo 25 ty 47 i0 _ 7 72 Try.underlying25 hi hz0 hz1 hz2 rfl (by decide) v pl.length (flatP pl) h2' ⟨W.heap.size, 0, none⟩ 1 1 (flatP [((o, .slice A n c) : Opr × Value)]) (flatP_length _) hnews hone (by simp only [maxLen]; omega) (by omega) (by simp; omega)
  have hG : W.grownBy W' v.ownBlock := (World.grownBy_alloc W _ _).trans g3
  have hsz : W.heap.size + 1 ≤ W'.heap.size := by have := g3.size; simpa using this
  have hsep : ∀ b, b < W.heap.size → v.ownBlock ≠ some b → v'.ownBlock ≠ some b := by
    intro b hb hne e
    rcases g5 with h4 | h4
    · exact hne (by rw [← h4]; exact e)
    · rw [h4, World.size_alloc] at e; simp only [Option.some.injEq] at e; omega
  refine ⟨v', W', hrun, ⟨pl ++ [(o, .slice A n c)], by simp, by rw [List.length_append, flatP_append]; exact g2, fun p hp => ?_⟩, hG, (Below.refl _ _).grown hG hlo (fun k hk => (hown k hk).1)⟩
  rcases List.mem_append.1 hp with hp | hp
  · exact (h3 p hp).keep (fun b hb => hG.block b hb.2.1 (fun e => hb.2.2 e.symm)) (fun b hb => ⟨hb.1, by omega, hsep b hb.2.1 hb.2.2⟩)
  · obtain rfl : p = (o, .slice A n c) := by simpa using hp
    exact hu.keep (fun b hb => hG.block b hb.2.1 (fun e => hb.2.2 e.symm)) (fun b hb => ⟨hb.1, by omega, hsep b hb.2.1 hb.2.2⟩)

end Go.Proofs.Ytffehnojcajhiaa.Wire.Entry

namespace Go.Proofs.Ytffehnojcajhiaa.Wire.Entry
open Go Go.RowKit Go.Proofs.Ytffehnojcajhiaa.Law

/-- A slice's three parts. -/
def sl3 : Value → Option Addr × Nat × Nat
  | .slice A l c => (A, l, c)
  | _ => (none, 0, 0)
/-- A row of operators whose slices' headers are hd. -/
def WipeD (S : Nat → Prop) (W : World) (g c1 n1 : Nat) (hd : Nat → Option Addr × Nat × Nat) : Prop :=
  ∃ cur, W.heap[g]? = some (.cells cur 47 (0, 0)) ∧ cur.size = c1 * 7 ∧ ∀ j, j < n1 → cur[j * 7 + 1]? = some (.slice (hd j).1 (hd j).2.1 (hd j).2.2) ∧
    (0 < (hd j).2.1 → ∃ gj cj, (hd j).1 = some ⟨gj, 0, none⟩ ∧ S gj ∧ gj ≠ g ∧ W.heap[gj]? = some (.cells cj 3 (0, 0)) ∧ (hd j).2.1 ≤ cj.size ∧ (hd j).2.1 ≤ maxLen)

theorem WipeD.header {S : Nat → Prop} {W : World} {g c1 n1 : Nat} {hd : Nat → Option Addr × Nat × Nat} (h : WipeD S W g c1 n1 hd) {j : Nat} (hj : j < n1) : W.cell? ⟨g, j * 7 + 1, none⟩ = some (.slice (hd j).1 (hd j).2.1 (hd j).2.2) := by
  obtain ⟨cur, h1, h2, h3⟩ := h
  simp [World.cell?, h1, (h3 j hj).1]
theorem WipeD.kind {S : Nat → Prop} {W : World} {g c1 n1 : Nat} {hd : Nat → Option Addr × Nat × Nat} (h : WipeD S W g c1 n1 hd) (hn : n1 ≤ c1) {j : Nat} (hj : j < n1) : (∃ u, W.cell? ⟨g, j * 7, none⟩ = some u) ∧ W.frozen? ⟨g, j * 7, none⟩ = false := by
  obtain ⟨cur, h1, h2, h3⟩ := h
  have hlt : j * 7 < cur.size := by omega
  exact ⟨⟨cur[j * 7], by simp [World.cell?, h1, hlt]⟩, by simp [World.frozen?, h1]⟩
theorem WipeD.num {S : Nat → Prop} {W : World} {g c1 n1 : Nat} {hd : Nat → Option Addr × Nat × Nat} (h : WipeD S W g c1 n1 hd) {j : Nat} (hj : j < n1) {k : Nat} (hk : k < (hd j).2.1) :
    ∃ gj, (hd j).1 = some ⟨gj, 0, none⟩ ∧ S gj ∧ gj ≠ g ∧ (∃ u, W.cell? ⟨gj, k, none⟩ = some u) ∧ W.frozen? ⟨gj, k, none⟩ = false := by
  obtain ⟨cur, h1, h2, h3⟩ := h
  obtain ⟨gj, cj, q1, q2, q3, q4, q5, _⟩ := (h3 j hj).2 (by omega)
  have hlt : k < cj.size := by omega
  exact ⟨gj, q1, q2, q3, ⟨cj[k], by simp [World.cell?, q4, hlt]⟩, by simp [World.frozen?, q4]⟩
theorem WipeD.small {S : Nat → Prop} {W : World} {g c1 n1 : Nat} {hd : Nat → Option Addr × Nat × Nat} (h : WipeD S W g c1 n1 hd) {j : Nat} (hj : j < n1) : (hd j).2.1 ≤ maxLen := by
  obtain ⟨cur, h1, h2, h3⟩ := h
  rcases Nat.eq_zero_or_pos (hd j).2.1 with h0 | h0
  · rw [h0]; exact Nat.zero_le _
  · obtain ⟨gj, cj, q1, q2, q3, q4, q5, q6⟩ := (h3 j hj).2 h0
    exact q6
theorem WipeD.setNum {S : Nat → Prop} {W : World} {g c1 n1 : Nat} {hd : Nat → Option Addr × Nat × Nat} (h : WipeD S W g c1 n1 hd) {q : Nat} (hq : q ≠ g) (k : Nat) (v : Value) : WipeD S (W.setCell ⟨q, k, none⟩ v) g c1 n1 hd := by
  obtain ⟨cur, h1, h2, h3⟩ := h
  refine ⟨cur, (Below.heap_setCell _ _ _ _ (by show g ≠ q; exact fun e => hq e.symm)).trans h1, h2, fun j hj => ⟨(h3 j hj).1, fun hp => ?_⟩⟩
  obtain ⟨gj, cj, q1, q2, q3, q4, q5⟩ := (h3 j hj).2 hp
  by_cases e : gj = q
  · subst e
    exact ⟨gj, _, q1, q2, q3, heap_setCell_same W gj k cj _ v q4, by simpa using q5⟩
  · exact ⟨gj, cj, q1, q2, q3, (Below.heap_setCell _ _ _ _ (by show gj ≠ q; exact e)).trans q4, q5⟩
theorem WipeD.setKind {S : Nat → Prop} {W : World} {g c1 n1 : Nat} {hd : Nat → Option Addr × Nat × Nat} (h : WipeD S W g c1 n1 hd) (k : Nat) (v : Value) : WipeD S (W.setCell ⟨g, k * 7, none⟩ v) g c1 n1 hd := by
  obtain ⟨cur, h1, h2, h3⟩ := h
  refine ⟨_, heap_setCell_same W g (k * 7) cur _ v h1, by simpa using h2, fun j hj => ⟨?_, fun hp => ?_⟩⟩
  · rw [Array.getElem?_setIfInBounds_ne (by omega)]
    exact (h3 j hj).1
  · obtain ⟨gj, cj, q1, q2, q3, q4, q5⟩ := (h3 j hj).2 hp
    exact ⟨gj, cj, q1, q2, q3, (Below.heap_setCell _ _ _ _ (by show gj ≠ g; exact q3)).trans q4, q5⟩
theorem WipeD.row {S : Nat → Prop} {W : World} {g c1 n1 : Nat} {hd : Nat → Option Addr × Nat × Nat} (h : WipeD S W g c1 n1 hd) (hn : n1 ≤ c1) (hc : c1 ≤ maxLen) : ∃ xs, W.ownsRow 0 47 7 (.slice (some ⟨g, 0, none⟩) n1 c1) n1 xs := by
  obtain ⟨cur, h1, h2, h3⟩ := h
  exact ⟨cur.toList.take (n1 * 7), by rw [List.length_take, Array.length_toList]; omega, .inr ⟨g, c1, cur, rfl, Nat.zero_le _, h1, hn, hc, h2, rfl⟩⟩

/-- A graph of its own, as the wipe finds it. -/
theorem OpsW.wipe {S : Nat → Prop} {W : World} {v : Value} {l : List Opr} (h : OpsW S W v l) :
    (v = .slice none 0 0 ∧ l = []) ∨ ∃ g c1 hd, v = .slice (some ⟨g, 0, none⟩) l.length c1 ∧ S g ∧ l.length ≤ c1 ∧ c1 ≤ maxLen ∧ WipeD S W g c1 l.length hd := by
  obtain ⟨pl, rfl, h2, h3⟩ := h
  rcases h2 with ⟨h4, rfl⟩ | ⟨g, cap, cur, rfl, q1, q2, q3, q4, q5, q6⟩
  · exact .inl ⟨h4, rfl⟩
  · refine .inr ⟨g, cap, fun j => sl3 ((pl[j]?.map Prod.snd).getD (.slice none 0 0)), by rw [List.length_map], q1, by rw [List.length_map]; exact q3, q4, cur, q2, q5, fun j hj => ?_⟩
    rw [List.length_map] at hj
    have hp : pl[j]? = some pl[j] := List.getElem?_eq_getElem hj
    obtain ⟨p, hpe⟩ : ∃ p, pl[j] = p := ⟨_, rfl⟩
    rw [hpe] at hp
    have hc : cur[j * 7 + 1]? = some p.2 := by
      have h5 := flatP_get hp 1 (by decide)
      rw [← q6, List.getElem?_take, if_pos (by omega), Array.getElem?_toList] at h5
      rw [h5]; rfl
    have hi := h3 p (List.mem_of_getElem? hp)
    have hf : ∃ A l' c, p.2 = .slice A l' c := by
      rcases hi with ⟨e, _⟩ | ⟨g', cap', cur', e, _⟩
      · exact ⟨_, _, _, e⟩
      · exact ⟨_, _, _, e⟩
    obtain ⟨A, l', c, he⟩ := hf
    dsimp only
    rw [hp]
    simp only [Option.map_some, Option.getD_some]
    rw [he] at hi hc ⊢
    refine ⟨hc, fun hpos => ?_⟩
    simp only [sl3] at hpos ⊢
    rcases hi with ⟨e, _⟩ | ⟨g', cap', cur', e, ⟨r1, r2⟩, r3, r4, r5, r6, _⟩
    · simp only [Value.slice.injEq] at e
      omega
    · simp only [Value.slice.injEq] at e
      obtain ⟨rfl, rfl, rfl⟩ := e
      exact ⟨g', cur', rfl, r1, fun e => r2 (by rw [e]; rfl), r3, by omega, by omega⟩

end Go.Proofs.Ytffehnojcajhiaa.Wire.Entry
