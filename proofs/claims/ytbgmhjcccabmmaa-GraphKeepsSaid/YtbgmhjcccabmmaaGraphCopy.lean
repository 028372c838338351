/-
  Contracts of the document's CopyGraph and SameGraph, of graphs alone.
-/
import Derived.Test.YtbgmhjcccabmmaaGraphCheck
import Derived.Maps.AppendAt
namespace Go.Proofs.Ytbgmhjcccabmmaa.Graph
open Go Go.RowKit Go.Proofs.Ytbgmhjcccabmmaa.Law

def ivals (l : List Int) : List Value := l.map (Value.int .i64)
theorem ivals_append (a b : List Int) : ivals (a ++ b) = ivals a ++ ivals b := by simp [ivals]
theorem ivals_length (a : List Int) : (ivals a).length = a.length := by simp [ivals]
theorem ivals_get {l : List Int} {j : Nat} {x : Int} (h : l[j]? = some x) : (ivals l)[j]? = some (.int .i64 x) := by simp [ivals, h]
/-- Ints in a row of the call's own. -/
def OwnI (W : World) (base : Nat) (v : Value) (l : List Int) : Prop := W.ownsRow base 3 1 v l.length (ivals l)
theorem OwnI.nil (W : World) (base : Nat) : OwnI W base (.slice none 0 0) [] := World.ownsRow_nil W base 3 1
theorem OwnI.form {W : World} {base : Nat} {v : Value} {l : List Int} (h : OwnI W base v l) : ∃ A cap, v = .slice A l.length cap ∧ l.length ≤ cap := by
  rcases h.2 with ⟨rfl, hz⟩ | ⟨g, cap, cur, rfl, _, _, hn, _⟩
  · exact ⟨none, 0, by rw [hz], by omega⟩
  · exact ⟨_, cap, rfl, hn⟩
theorem OwnI.own {W : World} {base : Nat} {v : Value} {l : List Int} (h : OwnI W base v l) {g : Nat} (hg : v.ownBlock = some g) : base ≤ g ∧ g < W.heap.size := h.lt g hg
theorem OwnI.keep {W W' : World} {base : Nat} {v : Value} {l : List Int} (h : OwnI W base v l) (hb : ∀ g, v.ownBlock = some g → W'.heap[g]? = W.heap[g]?) : OwnI W' base v l := by
  refine ⟨h.1, ?_⟩
  rcases h.2 with h0 | ⟨g, cap, cur, rfl, h1, h2, h3⟩
  · exact .inl h0
  · exact .inr ⟨g, cap, cur, rfl, h1, (hb g rfl).trans h2, h3⟩
theorem OwnI.below {W W' : World} {base : Nat} {v : Value} {l : List Int} (h : OwnI W base v l) (hB : Below W.heap.size W W') : OwnI W' base v l := h.keep fun _ hg => hB.block _ (h.own hg).2
theorem OwnI.ints {W : World} {base : Nat} {v : Value} {l : List Int} (h : OwnI W base v l) : IntsAt (fun k => base ≤ k ∧ k < W.heap.size) W v l := by
  have hlt := fun (g : Nat) (hg : v.ownBlock = some g) => h.own hg
  have hcell := fun (g : Nat) (hg : v.ownBlock = some g) => World.ownsRow.cells h hg
  rcases h.2 with ⟨rfl, hz⟩ | ⟨g, cap, cur, rfl, _, _, hn, _⟩
  · exact ⟨none, 0, by rw [hz], by omega, fun _ => rfl, fun hp => absurd hp (by omega)⟩
  · refine ⟨_, cap, rfl, hn, (fun h => by cases h), fun _ => ⟨g, 0, rfl, hlt g rfl, fun j x hx => ?_⟩⟩
    have := hcell g rfl j _ (ivals_get hx)
    rw [Addr.add_lit] at this
    exact this
theorem info_int : (Try.prog.info? 3).map (fun i => (i.zero, i.size, i.bytes)) = some (some (.int .i64 0), 1, 8) := by kernel_rfl
/-- One more behind. -/
theorem OwnI.append {W : World} {base : Nat} {v : Value} {l : List Int} (h : OwnI W base v l) (hbase : base ≤ W.heap.size) (y : Int) (ty : TypeId) (hroom : (l.length + 1) * 8 ≤ 140737488355328) :
    ∃ v' W', (Builtin.append_ #[46, 46] ty #[v, .slice (some ⟨W.heap.size, 0, none⟩) 1 1]).run Try.prog (W.alloc (.cells #[.int .i64 y] 3)) = .ok v' W' ∧ OwnI W' base v' (l ++ [y]) ∧ W.grownBy W' v.ownBlock ∧ (v'.ownBlock = v.ownBlock ∨ v'.ownBlock = some (W.heap.size + 1)) := by
  obtain ⟨i0, hi, hz0, hz1, hz2⟩ := info_parts info_int
  have h1 : (W.alloc (.cells #[.int .i64 y] 3)).ownsRow base 3 1 v l.length (ivals l) := h.below ((Below.refl _ _).alloc (Nat.le_refl _) _)
  have hc : (W.alloc (.cells #[.int .i64 y] 3)).cell? ⟨W.heap.size, 0, none⟩ = some (.int .i64 y) := cell_new _ _ _ _ _ rfl
  have hnews : ∀ (j : Nat) (x : Value), (ivals [y])[j]? = some x → (W.alloc (.cells #[.int .i64 y] 3)).cell? ((⟨W.heap.size, 0, none⟩ : Addr).add j) = some x := by
    intro j x hx
    match j, hx with
    | 0, hx =>
      obtain rfl : Value.int .i64 y = x := by simpa [ivals] using hx
      rw [Addr.add_lit]
      exact hc
    | j + 1, hx => simp [ivals] at hx
  have hone : ∀ u ∈ ivals [y], u.oneCell' = true := by
    intro u hu
    obtain rfl : u = .int .i64 y := by simpa [ivals] using hu
    rfl
  obtain ⟨v', W', hrun, h2, h3, _, h5⟩ := run_append_own_at (P := Try.prog) (W.alloc (.cells #[.int .i64 y] 3)) base 46 ty 3 i0 _ 1 8 Try.underlying46 hi hz0 hz1 hz2 rfl (by decide) v l.length (ivals l) h1 ⟨W.heap.size, 0, none⟩ 1 1 (ivals [y]) (ivals_length _) hnews hone (by simp only [maxLen]; omega) (by omega) (by simp; omega)
  refine ⟨v', W', hrun, ?_, (World.grownBy_alloc W _ _).trans h3, by simpa using h5⟩
  unfold OwnI
  rw [List.length_append, ivals_append]
  exact h2
theorem grown_set (W : World) (b o : Nat) (v : Value) : W.grownBy (W.setCell ⟨b, o, none⟩ v) (some b) :=
  ⟨rfl, rfl, rfl, by simp [World.setCell], fun k _ hne => Below.heap_setCell _ _ _ _ (fun e => hne (by rw [e]))⟩
/-- Seven cells. -/
def cellsP (p : Opr × Value) : List Value := [.int .i64 p.1.kind, p.2, .int .i64 p.1.arg, .int .u32 (p.1.num : Nat), .int .i64 p.1.rounds, .int .i64 p.1.test, .int .u32 (p.1.lim : Nat)]
def flatP : List (Opr × Value) → List Value
  | [] => []
  | p :: r => cellsP p ++ flatP r
theorem flatP_append : ∀ a b : List (Opr × Value), flatP (a ++ b) = flatP a ++ flatP b
  | [], _ => rfl
  | p :: a, b => by rw [List.cons_append, flatP, flatP, flatP_append a b, List.append_assoc]
theorem flatP_length : ∀ l : List (Opr × Value), (flatP l).length = l.length * 7
  | [] => rfl
  | p :: r => by rw [flatP, List.length_append, flatP_length r, List.length_cons]; show 7 + r.length * 7 = _; omega
theorem flatP_get : ∀ {l : List (Opr × Value)} {j : Nat} {p : Opr × Value}, l[j]? = some p → ∀ i, i < 7 → (flatP l)[j * 7 + i]? = (cellsP p)[i]?
  | [], j, p, h, _, _ => by simp at h
  | q :: r, 0, p, h, i, hi => by
    obtain rfl : q = p := by simpa using h
    rw [flatP, Nat.zero_mul, Nat.zero_add, List.getElem?_append_left (by show i < 7; exact hi)]
  | q :: r, j + 1, p, h, i, hi => by
    have := flatP_get (l := r) (j := j) (p := p) (by simpa using h) i hi
    rw [flatP, List.getElem?_append_right (by show 7 ≤ _; omega)]
    rw [← this]
    congr 1
    show (j + 1) * 7 + i - 7 = j * 7 + i
    omega
theorem flatP_one : ∀ {l : List (Opr × Value)}, (∀ p ∈ l, p.2.oneCell' = true) → ∀ u ∈ flatP l, u.oneCell' = true
  | [], _, u, h => by cases h
  | p :: r, hl, u, h => by
    rw [flatP] at h
    rcases List.mem_append.1 h with h | h
    · simp only [cellsP, List.mem_cons, List.not_mem_nil, or_false] at h
      rcases h with rfl | rfl | rfl | rfl | rfl | rfl | rfl
      · rfl
      · exact hl p List.mem_cons_self
      · rfl
      · rfl
      · rfl
      · rfl
      · rfl
    · exact flatP_one (fun q hq => hl q (List.mem_cons_of_mem _ hq)) u h
/-- A growing row of operators. -/
def GrowO (lo : Nat) (W : World) (v : Value) (l : List Opr) : Prop :=
  ∃ pl : List (Opr × Value), pl.map Prod.fst = l ∧ W.ownsRow lo 49 7 v pl.length (flatP pl) ∧ ∀ p ∈ pl, IntsAt (fun b => lo ≤ b ∧ b < W.heap.size ∧ v.ownBlock ≠ some b) W p.2 p.1.ins
theorem GrowO.nil (W : World) (lo : Nat) : GrowO lo W (.slice none 0 0) [] := ⟨[], rfl, World.ownsRow_nil W lo 49 7, fun p h => by cases h⟩
theorem GrowO.own {lo : Nat} {W : World} {v : Value} {l : List Opr} (h : GrowO lo W v l) {g : Nat} (hg : v.ownBlock = some g) : lo ≤ g ∧ g < W.heap.size := by
  obtain ⟨pl, _, h2, _⟩ := h
  exact h2.lt g hg
theorem GrowO.form {lo : Nat} {W : World} {v : Value} {l : List Opr} (h : GrowO lo W v l) : ∃ A cap, v = .slice A l.length cap ∧ l.length ≤ cap := by
  obtain ⟨pl, rfl, h2, _⟩ := h
  rw [List.length_map]
  rcases h2.2 with ⟨rfl, hz⟩ | ⟨g, cap, cur, rfl, _, _, hn, _⟩
  · exact ⟨none, 0, by rw [hz], by omega⟩
  · exact ⟨_, cap, rfl, hn⟩
theorem GrowO.keep {lo : Nat} {W W' : World} {v : Value} {l : List Opr} (h : GrowO lo W v l) (hb : ∀ b, lo ≤ b → b < W.heap.size → W'.heap[b]? = W.heap[b]?) (hs : W.heap.size ≤ W'.heap.size) : GrowO lo W' v l := by
  have hown := fun (g : Nat) (hg : v.ownBlock = some g) => h.own hg
  obtain ⟨pl, h1, h2, h3⟩ := h
  refine ⟨pl, h1, ⟨h2.1, ?_⟩, fun p hp => (h3 p hp).keep (fun b h => hb b h.1 h.2.1) (fun b h => ⟨h.1, Nat.lt_of_lt_of_le h.2.1 hs, h.2.2⟩)⟩
  rcases h2.2 with h0 | ⟨g, cap, cur, rfl, q1, q2, q3⟩
  · exact .inl h0
  · exact .inr ⟨g, cap, cur, rfl, q1, (hb g q1 (hown g rfl).2).trans q2, q3⟩
theorem GrowO.below {lo : Nat} {W W' : World} {v : Value} {l : List Opr} (h : GrowO lo W v l) (hB : Below W.heap.size W W') : GrowO lo W' v l := h.keep (fun b _ hb => hB.block b hb) hB.size
theorem GrowO.ops {lo : Nat} {W : World} {v : Value} {l : List Opr} (h : GrowO lo W v l) : OpsAt (fun b => lo ≤ b ∧ b < W.heap.size) W v l := by
  have hown := fun (g : Nat) (hg : v.ownBlock = some g) => h.own hg
  obtain ⟨pl, rfl, h2, h3⟩ := h
  have hcell := fun (g : Nat) (hg : v.ownBlock = some g) => World.ownsRow.cells h2 hg
  rcases h2.2 with ⟨rfl, hz⟩ | ⟨g, cap, cur, rfl, _, _, hn, _⟩
  · obtain rfl := List.eq_nil_of_length_eq_zero hz
    exact OpsAt.nil _ _
  · refine ⟨_, cap, by rw [List.length_map], by rw [List.length_map]; exact hn, (fun h => by cases h), fun _ => ⟨g, 0, rfl, hown g rfl, fun j x hx => ?_⟩⟩
    rw [List.getElem?_map] at hx
    match hp : pl[j]? with
    | none => rw [hp] at hx; cases hx
    | some p =>
      rw [hp] at hx
      obtain rfl : p.1 = x := by simpa using hx
      have hq : ∀ i u, i < 7 → (cellsP p)[i]? = some u → W.cell? ⟨g, 0 + j * 7 + i, none⟩ = some u := fun i u hi hu => by
        have := hcell g rfl (j * 7 + i) u ((flatP_get hp i hi).trans hu)
        rw [Addr.add_lit] at this
        rw [show 0 + j * 7 + i = 0 + (j * 7 + i) by omega]
        exact this
      exact ⟨p.2, ⟨hq 0 _ (by omega) rfl, hq 1 _ (by omega) rfl, hq 2 _ (by omega) rfl, hq 3 _ (by omega) rfl, hq 4 _ (by omega) rfl, hq 5 _ (by omega) rfl, hq 6 _ (by omega) rfl⟩, (h3 p (List.mem_of_getElem? hp)).mono (fun b hb => ⟨hb.1, hb.2.1⟩)⟩
theorem info_op : (Try.prog.info? 49).map (fun i => (i.zero, i.size, i.bytes)) = some (some (.agg #[.int .i64 0, .slice none 0 0, .int .i64 0, .int .u32 0, .int .i64 0, .int .i64 0, .int .u32 0]), 7, 72) := by kernel_rfl
/-- One more behind: it lies as a literal in a new block. -/
theorem GrowO.append {lo : Nat} {W : World} {v : Value} {l : List Opr} (h : GrowO lo W v l) (hlo : lo ≤ W.heap.size) (o : Opr) (A : Option Addr) (n c : Nat) (hu : IntsAt (fun b => lo ≤ b ∧ b < W.heap.size ∧ v.ownBlock ≠ some b) W (.slice A n c) o.ins) (ty : TypeId) (hroom : (l.length + 1) * 72 ≤ 140737488355328) :
    ∃ v' W', (Builtin.append_ #[22, 22] ty #[v, .slice (some ⟨W.heap.size, 0, none⟩) 1 1]).run Try.prog (W.alloc (.cells #[.int .i64 o.kind, .slice A n c, .int .i64 o.arg, .int .u32 (o.num : Nat), .int .i64 o.rounds, .int .i64 o.test, .int .u32 (o.lim : Nat)] 49)) = .ok v' W' ∧ GrowO lo W' v' (l ++ [o]) ∧ W.grownBy W' v.ownBlock ∧ Below lo W W' := by
  obtain ⟨i0, hi, hz0, hz1, hz2⟩ := info_parts info_op
  have hown := fun (g : Nat) (hg : v.ownBlock = some g) => h.own hg
  have h0 := h.below ((Below.refl _ _).alloc (Nat.le_refl _) (.cells #[.int .i64 o.kind, .slice A n c, .int .i64 o.arg, .int .u32 (o.num : Nat), .int .i64 o.rounds, .int .i64 o.test, .int .u32 (o.lim : Nat)] 49))
  obtain ⟨pl, rfl, h2, h3⟩ := h
  rw [List.length_map] at hroom
  have h2' : (W.alloc (.cells #[.int .i64 o.kind, .slice A n c, .int .i64 o.arg, .int .u32 (o.num : Nat), .int .i64 o.rounds, .int .i64 o.test, .int .u32 (o.lim : Nat)] 49)).ownsRow lo 49 7 v pl.length (flatP pl) := h2.alloc _
  have hf : flatP [((o, .slice A n c) : Opr × Value)] = cellsP (o, .slice A n c) := by rw [flatP, flatP, List.append_nil]
  have hnews : ∀ (j : Nat) (x : Value), (flatP [((o, .slice A n c) : Opr × Value)])[j]? = some x → (W.alloc (.cells #[.int .i64 o.kind, .slice A n c, .int .i64 o.arg, .int .u32 (o.num : Nat), .int .i64 o.rounds, .int .i64 o.test, .int .u32 (o.lim : Nat)] 49)).cell? ((⟨W.heap.size, 0, none⟩ : Addr).add j) = some x := by
    intro j x hx
    rw [hf] at hx
    rw [Addr.add_lit, Nat.zero_add]
    refine cell_new W _ _ j x ?_
    rw [← Array.getElem?_toList]
    exact hx
  have hone : ∀ u ∈ flatP [((o, .slice A n c) : Opr × Value)], u.oneCell' = true := flatP_one (fun p hp => by
    obtain rfl : p = (o, .slice A n c) := by simpa using hp
    rfl)
  obtain ⟨v', W', hrun, g2, g3, _, g5⟩ := run_append_own_at (P := Try.prog) (W.alloc (.cells #[.int .i64 o.kind, .slice A n c, .int .i64 o.arg, .int .u32 (o.num : Nat), .int .i64 o.rounds, .int .i64 o.test, .int .u32 (o.lim : Nat)] 49)) lo 22 ty 49 i0 _ 7 72 Try.underlying22 hi hz0 hz1 hz2 rfl (by decide) v pl.length (flatP pl) h2' ⟨W.heap.size, 0, none⟩ 1 1 (flatP [((o, .slice A n c) : Opr × Value)]) (flatP_length _) hnews hone (by simp only [maxLen]; omega) (by omega) (by simp; omega)
  have hG : W.grownBy W' v.ownBlock := (World.grownBy_alloc W _ _).trans g3
  have hsz : W.heap.size + 1 ≤ W'.heap.size := by have := g3.size; simpa using this
  have hsep : ∀ b, b < W.heap.size → v.ownBlock ≠ some b → v'.ownBlock ≠ some b := by
    intro b hb hne e
    rcases g5 with h4 | h4
    · exact hne (by rw [← h4]; exact e)
    · rw [h4, World.size_alloc] at e; simp only [Option.some.injEq] at e; omega
  refine ⟨v', W', hrun, ⟨pl ++ [(o, .slice A n c)], by simp, by rw [List.length_append, flatP_append]; exact g2, fun p hp => ?_⟩, hG, (Below.refl _ _).grown hG hlo (fun k hk => (hown k hk).1)⟩
  rcases List.mem_append.1 hp with hp | hp
  · exact (h3 p hp).keep (fun b hb => hG.block b hb.2.1 (fun e => hb.2.2 e.symm)) (fun b hb => ⟨hb.1, by omega, hsep b hb.2.1 hb.2.2⟩)
  · obtain rfl : p = (o, .slice A n c) := by simpa using hp
    exact hu.keep (fun b hb => hG.block b hb.2.1 (fun e => hb.2.2 e.symm)) (fun b hb => ⟨hb.1, by omega, hsep b hb.2.1 hb.2.2⟩)
abbrev Z1 : Obj := .cells #[.slice none 0 0] 24
/-- append([]int{}, ..): the numbers anew. -/
theorem ints_copy {S : Nat → Prop} {W : World} {sv : Value} {zs : List Int} (hI : IntsAt S W sv zs) (hS : ∀ b, S b → b < W.heap.size) (hr : zs.length * 8 ≤ 140737488351232) (ty : TypeId) :
    ∃ v' W', (Builtin.append_ #[46, 46] ty #[.slice (some ⟨W.heap.size, 0, none⟩) 0 0, sv]).run Try.prog (W.alloc (.cells #[] 3)) = .ok v' W' ∧ OwnI W' W.heap.size v' zs ∧ Below W.heap.size W W' := by
  obtain ⟨i0, hi, hz0, hz1, hz2⟩ := info_parts info_int
  have hown : (W.alloc (.cells #[] 3)).ownsRow W.heap.size 3 1 (.slice (some ⟨W.heap.size, 0, none⟩) 0 0) 0 [] := World.ownsRow_lit W #[] 0 (Nat.le_refl _) (by simp [maxLen]) rfl
  have hB : Below W.heap.size W (W.alloc (.cells #[] 3)) := (Below.refl _ _).alloc (Nat.le_refl _) _
  obtain ⟨A, cap, rfl, hc, hn, hcell⟩ := hI
  cases A with
  | none =>
    have hz : zs = [] := by
      cases zs with
      | nil => rfl
      | cons z r => obtain ⟨b, off, he, _⟩ := hcell (by simp); cases he
    subst hz
    obtain rfl := hn rfl
    exact ⟨_, _, run_append_owned_none (P := Try.prog) (w := W.alloc (.cells #[] 3)) W.heap.size 46 ty 3 i0 1 Try.underlying46 hi _ 0 [] hown, hown, hB⟩
  | some a =>
    obtain ⟨v', W', hrun, h2, h3, _, _⟩ := run_append_own_at (P := Try.prog) (W.alloc (.cells #[] 3)) W.heap.size 46 ty 3 i0 _ 1 8 Try.underlying46 hi hz0 hz1 hz2 rfl (by decide) _ 0 [] hown a zs.length cap (ivals zs) (by simp [ivals])
      (fun j u hu => by
        have hj : j < zs.length := by have := (List.getElem?_eq_some_iff.1 hu).1; simpa [ivals] using this
        obtain ⟨b, off, he, hb, h4⟩ := hcell (by omega)
        obtain rfl : a = ⟨b, off, none⟩ := by simpa using he
        have hx : zs[j]? = some zs[j] := List.getElem?_eq_getElem hj
        have h5 := ivals_get hx
        rw [h5] at hu
        obtain rfl := Option.some.inj hu
        rw [Addr.add_lit]
        exact (hB.cell (p := ⟨b, off + j, none⟩) (hS b hb)).trans (h4 j _ hx))
      (fun u hu => by obtain ⟨z, _, rfl⟩ := List.mem_map.1 hu; rfl) (by simp only [maxLen]; omega) (by omega) (by simp)
    refine ⟨v', W', hrun, ?_, hB.grown h3 (by simp) (fun k hk => by simp only [Value.ownBlock, Option.some.injEq] at hk; omega)⟩
    show W'.ownsRow _ _ _ _ _ _
    rw [Nat.zero_add, List.nil_append] at h2
    exact h2
/-- What lies as the graph is copied. -/
structure CpG (w W : World) (b : Nat) (v : Value) (A : Option Addr) (n c : Nat) (ops : List Opr) : Prop where
  low : Below b w W
  arg : W.heap[b]? = some (.cells #[v] 24)
  res : W.heap[b + 1]? = some Z1
  box : W.heap[b + 1 + 1]? = some (.cells #[.slice A n c] 24)
  grow : GrowO (b + 1 + 1 + 1) W (.slice A n c) ops
/-- A graph that was copied. -/
def RetCopy (w : World) (ops : List Opr) (e : Ending) (W : World) : Prop :=
  ∃ (A : Option Addr) (n c : Nat), e = .returned (.agg #[.slice A n c]) ∧ OpsAt (fun k => w.heap.size ≤ k ∧ k < W.heap.size) W (.slice A n c) ops ∧ Below w.heap.size w W
set_option maxRecDepth 100000 in
set_option maxHeartbeats 800000 in
theorem copyGraph_calls (ops : List Opr) (hl : ops.length * 72 ≤ 140737488351232) (hin : ∀ x ∈ ops, x.ins.length * 8 ≤ 140737488351232) (v : Value) (w : World) (hI : OldO w.heap.size w v ops) : Calls Try.prog 15 #[.agg #[v]] w (RetCopy w ops) := by
  obtain ⟨A, cap, rfl, _⟩ := hI.form
  obtain ⟨n, hn⟩ : ∃ n, ops.length = n := ⟨_, rfl⟩
  rw [hn] at hI ⊢
  obtain ⟨b, hb⟩ : ∃ b, w.heap.size = b := ⟨_, rfl⟩
  have hstart : CpG w (((w.alloc (.cells #[.slice A n cap] 24)).alloc Z1).alloc Z1) b (.slice A n cap) none 0 0 (ops.take 0) := by
    subst hb
    have e1 := heap_alloc_new w (.cells #[.slice A n cap] 24)
    have e2 := heap_alloc_new (w.alloc (.cells #[.slice A n cap] 24)) Z1
    have e3 := heap_alloc_new ((w.alloc (.cells #[.slice A n cap] 24)).alloc Z1) Z1
    simp only [World.size_alloc] at e2 e3
    refine ⟨(((Below.refl _ _).alloc (Nat.le_refl _) _).alloc (by simp) _).alloc (by simp; omega) _, ?_, ?_, e3, GrowO.nil _ _⟩
    · exact (Below.heap_alloc _ _ _ (by simp; omega)).trans ((Below.heap_alloc _ _ _ (by simp)).trans e1)
    · exact (Below.heap_alloc _ _ _ (by simp)).trans e2
  have HST := Lib.hid hstart
  have HI := Lib.hid hI
  have HBB := Lib.hid hb
  have HN := Lib.hid hn
  have HL := Lib.hid hl
  have HIN := Lib.hid hin
  have hnn : n * 72 ≤ 140737488351232 := by rw [← hn]; exact hl
  clear hI hstart hb hn hl hin
  go_enter Try.func15, Try.ntmps15
  go_wp2_with fail
  rw [HBB.out]
  go_loopw [4] (fun i wr => ∃ k : Nat, i = .int .i64 k ∧ k ≤ n ∧ Hid (∃ A' n' c, CpG w wr b (.slice A n cap) A' n' c (ops.take k))) (fun i _ => n - (intOf i).toNat)
  case atStart => exact ⟨0, rfl, Nat.zero_le _, Lib.hid ⟨_, _, _, HST.out⟩⟩
  case round =>
    obtain ⟨k, rfl, hk, hR⟩ := hrel
    obtain ⟨A', n', c, hR⟩ := hR.out
    have hgw := lt_of_some hR.box
    have HR := Lib.hid hR
    obtain ⟨v0, vf⟩ := box1 hR.arg
    clear hR
    by_cases hlt : k < n
    · obtain ⟨y, hy⟩ : ∃ y, ops[k]? = some y := ⟨_, List.getElem?_eq_getElem (by rw [HN.out]; exact hlt)⟩
      have hly := HIN.out y (List.mem_of_getElem? hy)
      have hIw : OldO w.heap.size wr (.slice A n cap) ops := OpsAt.low (by rw [HBB.out]; exact HR.out.low) HI.out
      obtain ⟨jb, jo, rfl, hjb, hcells⟩ := hIw.at (by omega)
      obtain ⟨uy, ⟨y0, y1, y2, y3, y4, y5, y6⟩, hiy⟩ := hcells k y hy
      obtain ⟨Ay, cy, rfl, _⟩ := hiy.form
      have hjw : jb < wr.heap.size := by have := HBB.out; omega
      obtain ⟨p, hp⟩ : ∃ p, wr.heap.size = p := ⟨_, rfl⟩
      obtain ⟨ly, hyl⟩ : ∃ ly, y.ins.length = ly := ⟨_, rfl⟩
      rw [hyl] at y1 hiy
      have hBa := (Below.refl wr.heap.size wr).alloc (Nat.le_refl _) (.cells #[.int .i64 y.kind, .slice Ay ly cy, .int .i64 y.arg, .int .u32 (y.num : Nat), .int .i64 y.rounds, .int .i64 y.test, .int .u32 (y.lim : Nat)] 49)
      have hpx := heap_alloc_new wr (.cells #[.int .i64 y.kind, .slice Ay ly cy, .int .i64 y.arg, .int .u32 (y.num : Nat), .int .i64 y.rounds, .int .i64 y.test, .int .u32 (y.lim : Nat)] 49)
      have hIa := hiy.keep (T := fun z => z < p) (fun z hz => hBa.block z (by have := HBB.out; omega)) (fun z hz => by have := HBB.out; omega)
      obtain ⟨v1, W1, hrun, hO1, hB1⟩ := ints_copy hIa (fun z hz => by simp; omega) hly 46
      obtain ⟨A1, c1, rfl, _⟩ := hO1.form
      rw [hyl] at hrun hO1
      have hpW : wr.heap.size + 1 ≤ W1.heap.size := by have := hB1.size; simpa using this
      have HB := Lib.hid hBa
      have HPX := Lib.hid hpx
      have HO1 := Lib.hid hO1
      have HB1 := Lib.hid hB1
      have HY := Lib.hid hy
      have HLT := Lib.hid hlt
      have HP := Lib.hid hp
      rw [World.size_alloc] at hrun
      have HRUN := Lib.hid hrun
      clear hBa hpx hIa hrun hO1 hB1 hy hcells hiy hIw hly hp hyl
      obtain ⟨⟨b0, b1, b2, b3, b4, b5, b6⟩, ⟨f0, f1, f2, f3, f4, f5, f6⟩⟩ := box7 ((HB1.out.block wr.heap.size (by simp)).trans HPX.out)
      have hkW : ∀ j, j < wr.heap.size → W1.heap[j]? = wr.heap[j]? := fun j hj => (HB1.out.block j (by simp; omega)).trans (HB.out.block j hj)
      obtain ⟨g0, gf⟩ := box1 ((hkW (b + 1 + 1) hgw).trans HR.out.box)
      have hgW : b + 1 + 1 < W1.heap.size := by omega
      have hpW' : wr.heap.size < W1.heap.size := by omega
      have hsz : (W1.setCell ⟨wr.heap.size, 1, none⟩ (.slice A1 ly c1)).heap.size = W1.heap.size := by simp [World.setCell]
      have hk2 : ∀ j, j < wr.heap.size → (W1.setCell ⟨wr.heap.size, 1, none⟩ (.slice A1 ly c1)).heap[j]? = wr.heap[j]? := fun j hj => (Below.heap_setCell _ _ _ _ (by show j ≠ wr.heap.size; omega)).trans (hkW j hj)
      have hG2 : GrowO (b + 1 + 1 + 1) (W1.setCell ⟨wr.heap.size, 1, none⟩ (.slice A1 ly c1)) (.slice A' n' c) (ops.take k) := HR.out.grow.keep (fun j _ hj => hk2 j hj) (by omega)
      have hown := fun (j : Nat) (hj : (Value.slice A' n' c).ownBlock = some j) => HR.out.grow.own hj
      have hint : IntsAt (fun j => b + 1 + 1 + 1 ≤ j ∧ j < (W1.setCell ⟨wr.heap.size, 1, none⟩ (.slice A1 ly c1)).heap.size ∧ (Value.slice A' n' c).ownBlock ≠ some j) (W1.setCell ⟨wr.heap.size, 1, none⟩ (.slice A1 ly c1)) (.slice A1 ly c1) y.ins :=
        HO1.out.ints.keep (fun j hj => Below.heap_setCell _ _ _ _ (by have := hj.1; simp at this; show j ≠ wr.heap.size; omega)) (fun j hj => ⟨by have := hj.1; simp at this; omega, by have := hj.2; omega, fun e => by have h1 := hown j e; have := hj.1; simp at this; omega⟩)
      have hlen : (ops.take k).length ≤ n := by rw [List.length_take]; omega
      obtain ⟨v2, W2, hrun2, hG3, hgr, hB2⟩ := hG2.append (by omega) y A1 ly c1 hint 22 (by omega)
      obtain ⟨A2, c2, hv2, _⟩ := hG3.form
      obtain ⟨m2, hm2⟩ : ∃ m2, (ops.take k ++ [y]).length = m2 := ⟨_, rfl⟩
      rw [hm2] at hv2
      subst hv2
      have hs2 : W1.heap.size ≤ W2.heap.size := by have := hgr.size; omega
      have hk3 : ∀ j, j ≤ b + 1 + 1 → W2.heap[j]? = wr.heap[j]? := fun j hj => (hB2.block j (by omega)).trans (hk2 j (by omega))
      have hbx : W2.heap[b + 1 + 1]? = _ := (hk3 _ (Nat.le_refl _)).trans HR.out.box
      obtain ⟨gc, gf'⟩ := box1 hbx
      have hlow : Below b w W2 := HR.out.low.trans (((HB.out.trans (HB1.out.mono (by simp))).mono (by omega) |>.setCell (p := ⟨wr.heap.size, 1, none⟩) (by show b ≤ wr.heap.size; omega) (.slice A1 ly c1)).trans (hB2.mono (by omega)))
      have hnext : CpG w (W2.setCell ⟨b + 1 + 1, 0, none⟩ (.slice A2 m2 c2)) b (.slice (some ⟨jb, jo, none⟩) n cap) A2 m2 c2 (ops.take (k + 1)) := by
        refine ⟨hlow.setCell (p := ⟨b + 1 + 1, 0, none⟩) (by show b ≤ b + 1 + 1; omega) _, ?_, ?_, stored1 hbx _, ?_⟩
        · exact (Below.heap_setCell _ _ _ _ (by show b ≠ b + 1 + 1; omega)).trans ((hk3 b (by omega)).trans HR.out.arg)
        · exact (Below.heap_setCell _ _ _ _ (by show b + 1 ≠ b + 1 + 1; omega)).trans ((hk3 (b + 1) (by omega)).trans HR.out.res)
        · rw [take_snoc HY.out]
          exact hG3.keep (fun j hj _ => Below.heap_setCell _ _ _ _ (by show j ≠ b + 1 + 1; omega)) (by simp [World.setCell])
      rw [hsz] at hrun2
      have HNX := Lib.hid hnext
      have HRUN2 := Lib.hid hrun2
      clear hkW hk2 hG2 hint hrun2 hG3 hgr hB2 hk3 hbx hlow hnext hown hsz hm2
      go_wp2_with (at_builtin; (first | refine wpList_append_ran rfl _ _ _ rfl rfl rfl HRUN.out ?_ | refine wpList_append_ran rfl _ _ _ rfl rfl rfl HRUN2.out ?_))
      go_roundw
      case rel => exact ⟨k + 1, by go_num, by have := HLT.out; omega, Lib.hid ⟨_, _, _, HNX.out⟩⟩
      case measure => have := HLT.out; simp [intOf]; omega
    · obtain rfl : k = n := by omega
      have hR := HR.out
      rw [List.take_of_length_le (by rw [HN.out]; exact Nat.le_refl _)] at hR
      obtain ⟨gc, gf⟩ := box1 hR.box
      obtain ⟨bc, bf⟩ := box1 hR.res
      have hfin := stored1 hR.res (.slice A' n' c)
      have hBf := hR.low.setCell (p := ⟨b + 1, 0, none⟩) (by show b ≤ b + 1; omega) (.slice A' n' c)
      have hops : OpsAt (fun j => b ≤ j ∧ j < (wr.setCell ⟨b + 1, 0, none⟩ (.slice A' n' c)).heap.size) (wr.setCell ⟨b + 1, 0, none⟩ (.slice A' n' c)) (.slice A' n' c) ops :=
        hR.grow.ops.keep (fun j hj => Below.heap_setCell _ _ _ _ (by show j ≠ b + 1; omega)) (fun j hj => ⟨by omega, by have := hj.2; simpa [World.setCell] using this⟩)
      have HF := Lib.hid hfin
      have HBF := Lib.hid hBf
      have HOPS := Lib.hid hops
      have hgw1 : b + 1 < wr.heap.size := by omega
      clear hfin hBf hops hR HR
      go_wp2_with fail
      have hfin := HF.out
      have hBf := HBF.out
      have hops := HOPS.out
      clear HF HBF HOPS gc gf bc bf
      generalize (wr.setCell ⟨b + 1, 0, none⟩ (.slice A' n' c)) = W at hfin hBf hops ⊢
      obtain ⟨p0, _⟩ := box1 hfin
      exact bodyPost_ret (v := .agg #[.slice A' n' c]) (by simp [results, Try.results15, go_sem, p0]) rfl ⟨A', n', c, rfl, by rw [HBB.out]; exact hops, by rw [HBB.out]; exact hBf⟩
theorem below2 (w : World) (o p : Obj) : Below w.heap.size w ((w.alloc o).alloc p) := ((Below.refl _ _).alloc (Nat.le_refl _) o).alloc (by simp) p
set_option maxRecDepth 100000 in
set_option maxHeartbeats 8000000 in
theorem sameGraph_calls (l m : List Opr) (hl : l.length * 72 ≤ 140737488351232) (hil : ∀ x ∈ l, x.ins.length * 8 ≤ 140737488351232) (u v : Value) (g : Bool) (hg : g = true ↔ l = m) (w : World) (hI : OldO w.heap.size w u l) (hJ : OldO w.heap.size w v m) :
    Calls Try.prog 16 #[.agg #[u], .agg #[v]] w (RetB w g) := by
  obtain ⟨A, cap, rfl, _⟩ := hI.form
  obtain ⟨B, cap2, rfl, _⟩ := hJ.form
  obtain ⟨len, hlen⟩ : ∃ len, l.length = len := ⟨_, rfl⟩
  obtain ⟨len2, hlen2⟩ : ∃ len, m.length = len := ⟨_, rfl⟩
  rw [hlen] at hI hl ⊢
  rw [hlen2] at hJ ⊢
  have HI := Lib.hid hI
  have HJ := Lib.hid hJ
  have HL := Lib.hid hlen
  have HL2 := Lib.hid hlen2
  have HG := Lib.hid hg
  have HIL := Lib.hid hil
  have HB0 := Lib.hid (below2 w (.cells #[.slice A len cap] 24) (.cells #[.slice B len2 cap2] 24))
  clear hI hJ hlen hlen2 hg hil
  by_cases hll : len = len2
  · subst hll
    obtain ⟨b, hb⟩ : ∃ b, w.heap.size = b := ⟨_, rfl⟩
    have hbx := ((Below.refl _ _).alloc (Nat.le_refl _) (.cells #[.slice B len cap2] 24) |>.block w.heap.size (by simp)).trans (heap_alloc_new w (.cells #[.slice A len cap] 24))
    have hby := heap_alloc_new (w.alloc (.cells #[.slice A len cap] 24)) (.cells #[.slice B len cap2] 24)
    have hsz : ((w.alloc (.cells #[.slice A len cap] 24)).alloc (.cells #[.slice B len cap2] 24)).heap.size = b + 2 := by simp [hb]
    rw [World.size_alloc, hb] at hby
    rw [hb] at hbx
    have HBX := Lib.hid hbx
    have HBY := Lib.hid hby
    have HSZ := Lib.hid hsz
    have HBB := Lib.hid hb
    clear hbx hby hsz
    go_enter Try.func16, Try.ntmps16
    go_wp2_with fail
    have hbx := HBX.out
    have hby := HBY.out
    have hsz := HSZ.out
    have hB0 := HB0.out
    clear HBX HBY HSZ HB0
    generalize ((w.alloc (.cells #[.slice A len cap] 24)).alloc (.cells #[.slice B len cap2] 24)) = w0 at hbx hby hsz hB0 ⊢
    have HBX := Lib.hid hbx
    have HBY := Lib.hid hby
    have HSZ := Lib.hid hsz
    have HB0 := Lib.hid hB0
    clear hbx hby hsz hB0 hb
    go_loopw [5] (fun i wr => ∃ k : Nat, i = .int .i64 k ∧ k ≤ len ∧ (∀ j, j < k → l[j]? = m[j]?) ∧ Below (b + 2) w0 wr) (fun i _ => len - (intOf i).toNat)
    case atStart => exact ⟨0, rfl, Nat.zero_le _, fun _ h => absurd h (Nat.not_lt_zero _), Below.refl _ _⟩
    case round =>
      obtain ⟨k, rfl, hk, hsame, hB⟩ := hrel
      have HSM := Lib.hid hsame
      have hs : b + 2 ≤ wr.heap.size := by have := hB.size; have := HSZ.out; omega
      obtain ⟨ga, _⟩ := box1 ((hB.block b (by omega)).trans HBX.out)
      obtain ⟨gb, _⟩ := box1 ((hB.block (b + 1) (by omega)).trans HBY.out)
      have hBw : Below w.heap.size w wr := HB0.out.trans (hB.mono (by have := HBB.out; omega))
      have HB := Lib.hid hB
      have HBW := Lib.hid hBw
      clear hsame hB hBw
      by_cases hlt : k < len
      · obtain ⟨x, hx⟩ : ∃ x, l[k]? = some x := ⟨_, List.getElem?_eq_getElem (by rw [HL.out]; exact hlt)⟩
        obtain ⟨y, hy⟩ : ∃ y, m[k]? = some y := ⟨_, List.getElem?_eq_getElem (by rw [HL2.out]; exact hlt)⟩
        obtain ⟨ib, io, rfl, hib, hcells⟩ := (OpsAt.low HBW.out HI.out).at (by omega)
        obtain ⟨jb, jo, rfl, hjb, hcells2⟩ := (OpsAt.low HBW.out HJ.out).at (by omega)
        obtain ⟨ux, ⟨c0, c1, c2, c3, c4, c5, c6⟩, hix⟩ := hcells k x hx
        obtain ⟨uy, ⟨e0, e1, e2, e3, e4, e5, e6⟩, hiy⟩ := hcells2 k y hy
        obtain ⟨Ax, cx, rfl, _⟩ := hix.form
        obtain ⟨Ay, cy, rfl, _⟩ := hiy.form
        obtain ⟨nx, hnx⟩ : ∃ n, x.ins.length = n := ⟨_, rfl⟩
        obtain ⟨ny, hny⟩ : ∃ n, y.ins.length = n := ⟨_, rfl⟩
        have hxb : nx * 8 ≤ 140737488351232 := by rw [← hnx]; exact HIL.out x (List.mem_of_getElem? hx)
        rw [hnx] at c1 hix
        rw [hny] at e1 hiy
        have hb1w : b + 1 < wr.heap.size := by omega
        have hb0w : b < wr.heap.size := by omega
        have hibw : ib < wr.heap.size := by have := HBB.out; omega
        have hjbw : jb < wr.heap.size := by have := HBB.out; omega
        have hneq : x ≠ y → g = false := fun h => b_false HG.out fun e => h (by rw [e, hy] at hx; exact (Option.some.inj hx).symm)
        have HNE := Lib.hid hneq
        have HX := Lib.hid hx
        have HY := Lib.hid hy
        have HNX := Lib.hid hnx
        have HNY := Lib.hid hny
        have HIX := Lib.hid hix
        have HIY := Lib.hid hiy
        have HLT := Lib.hid hlt
        have HBF : Hid (∀ o p, Below w.heap.size w ((wr.alloc o).alloc p)) := Lib.hid fun o p => (HBW.out.alloc HBW.out.size o).alloc (Nat.le_trans HBW.out.size (by simp)) p
        clear hcells hcells2 hix hiy hx hy hnx hny hneq
        by_cases hf0 : x.kind = y.kind
        · have HF0 := Lib.hid hf0
          rw [← hf0] at e0
          clear hf0
          by_cases hf1 : x.arg = y.arg
          · have HF1 := Lib.hid hf1
            rw [← hf1] at e2
            clear hf1
            by_cases hf2 : x.num = y.num
            · have HF2 := Lib.hid hf2
              rw [← hf2] at e3
              clear hf2
              by_cases hf3 : x.rounds = y.rounds
              · have HF3 := Lib.hid hf3
                rw [← hf3] at e4
                clear hf3
                by_cases hf4 : x.test = y.test
                · have HF4 := Lib.hid hf4
                  rw [← hf4] at e5
                  clear hf4
                  by_cases hf5 : x.lim = y.lim
                  · have HF5 := Lib.hid hf5
                    rw [← hf5] at e6
                    clear hf5
                    by_cases hnn : nx = ny
                    · subst hnn
                      have h2x := ((Below.refl _ _).alloc (Nat.le_refl _) (.cells #[.int .i64 x.kind, .slice Ay nx cy, .int .i64 x.arg, .int .u32 (x.num : Nat), .int .i64 x.rounds, .int .i64 x.test, .int .u32 (x.lim : Nat)] 49) |>.block wr.heap.size (by simp)).trans (heap_alloc_new wr (.cells #[.int .i64 x.kind, .slice Ax nx cx, .int .i64 x.arg, .int .u32 (x.num : Nat), .int .i64 x.rounds, .int .i64 x.test, .int .u32 (x.lim : Nat)] 49))
                      have h2y := heap_alloc_new (wr.alloc (.cells #[.int .i64 x.kind, .slice Ax nx cx, .int .i64 x.arg, .int .u32 (x.num : Nat), .int .i64 x.rounds, .int .i64 x.test, .int .u32 (x.lim : Nat)] 49)) (.cells #[.int .i64 x.kind, .slice Ay nx cy, .int .i64 x.arg, .int .u32 (x.num : Nat), .int .i64 x.rounds, .int .i64 x.test, .int .u32 (x.lim : Nat)] 49)
                      rw [World.size_alloc] at h2y
                      have H2X := Lib.hid h2x
                      have H2Y := Lib.hid h2y
                      have hix2 := HIX.out.keep (W' := ((wr.alloc (.cells #[.int .i64 x.kind, .slice Ax nx cx, .int .i64 x.arg, .int .u32 (x.num : Nat), .int .i64 x.rounds, .int .i64 x.test, .int .u32 (x.lim : Nat)] 49)).alloc (.cells #[.int .i64 x.kind, .slice Ay nx cy, .int .i64 x.arg, .int .u32 (x.num : Nat), .int .i64 x.rounds, .int .i64 x.test, .int .u32 (x.lim : Nat)] 49))) (T := fun _ => True) (fun k hk => (Below.heap_alloc _ _ k (by simp; have := HBB.out; omega)).trans (Below.heap_alloc wr _ k (by have := HBB.out; omega))) (fun _ _ => trivial)
                      have hiy2 := HIY.out.keep (W' := ((wr.alloc (.cells #[.int .i64 x.kind, .slice Ax nx cx, .int .i64 x.arg, .int .u32 (x.num : Nat), .int .i64 x.rounds, .int .i64 x.test, .int .u32 (x.lim : Nat)] 49)).alloc (.cells #[.int .i64 x.kind, .slice Ay nx cy, .int .i64 x.arg, .int .u32 (x.num : Nat), .int .i64 x.rounds, .int .i64 x.test, .int .u32 (x.lim : Nat)] 49))) (T := fun _ => True) (fun k hk => (Below.heap_alloc _ _ k (by simp; have := HBB.out; omega)).trans (Below.heap_alloc wr _ k (by have := HBB.out; omega))) (fun _ _ => trivial)
                      have HIX2 := Lib.hid hix2
                      have HIY2 := Lib.hid hiy2
                      have hB2 := (HB.out.alloc (by omega) (.cells #[.int .i64 x.kind, .slice Ax nx cx, .int .i64 x.arg, .int .u32 (x.num : Nat), .int .i64 x.rounds, .int .i64 x.test, .int .u32 (x.lim : Nat)] 49)).alloc (show b + 2 ≤ (wr.alloc (.cells #[.int .i64 x.kind, .slice Ax nx cx, .int .i64 x.arg, .int .u32 (x.num : Nat), .int .i64 x.rounds, .int .i64 x.test, .int .u32 (x.lim : Nat)] 49)).heap.size by simp; omega) (.cells #[.int .i64 x.kind, .slice Ay nx cy, .int .i64 x.arg, .int .u32 (x.num : Nat), .int .i64 x.rounds, .int .i64 x.test, .int .u32 (x.lim : Nat)] 49)
                      have HB2 := Lib.hid hB2
                      have HBF2 := Lib.hid (HBF.out (.cells #[.int .i64 x.kind, .slice Ax nx cx, .int .i64 x.arg, .int .u32 (x.num : Nat), .int .i64 x.rounds, .int .i64 x.test, .int .u32 (x.lim : Nat)] 49) (.cells #[.int .i64 x.kind, .slice Ay nx cy, .int .i64 x.arg, .int .u32 (x.num : Nat), .int .i64 x.rounds, .int .i64 x.test, .int .u32 (x.lim : Nat)] 49))
                      clear h2x h2y hix2 hiy2 hB2 HBF
                      go_wp2_with fail
                      have h2x := H2X.out
                      have h2y := H2Y.out
                      have hix2 := HIX2.out
                      have hiy2 := HIY2.out
                      have hB2 := HB2.out
                      have hBF2 := HBF2.out
                      clear H2X H2Y HIX2 HIY2 HB2 HBF2 c0 c1 c2 c3 c4 c5 c6 e0 e1 e2 e3 e4 e5 e6
                      generalize ((wr.alloc (.cells #[.int .i64 x.kind, .slice Ax nx cx, .int .i64 x.arg, .int .u32 (x.num : Nat), .int .i64 x.rounds, .int .i64 x.test, .int .u32 (x.lim : Nat)] 49)).alloc (.cells #[.int .i64 x.kind, .slice Ay nx cy, .int .i64 x.arg, .int .u32 (x.num : Nat), .int .i64 x.rounds, .int .i64 x.test, .int .u32 (x.lim : Nat)] 49)) = w2 at h2x h2y hix2 hiy2 hB2 hBF2 ⊢
                      have H2X := Lib.hid h2x
                      have H2Y := Lib.hid h2y
                      have HIX2 := Lib.hid hix2
                      have HIY2 := Lib.hid hiy2
                      have HB2 := Lib.hid hB2
                      have HBF2 := Lib.hid hBF2
                      clear h2x h2y hix2 hiy2 hB2 hBF2
                      obtain ⟨q, hq⟩ : ∃ q, wr.heap.size = q := ⟨_, rfl⟩
                      simp only [hq] at H2X H2Y ⊢
                      obtain ⟨wo, rfl⟩ : ∃ wo, wo = wr := ⟨_, rfl⟩
                      clear hq
                      go_loopw [8] (fun i wx => ∃ t : Nat, i = .int .i64 t ∧ t ≤ nx ∧ (∀ j, j < t → x.ins[j]? = y.ins[j]?) ∧ ∃ d, wx = w2.drewN d) (fun i _ => nx - (intOf i).toNat)
                      case atStart => exact ⟨0, rfl, Nat.zero_le _, fun _ h => absurd h (Nat.not_lt_zero _), 0, rfl⟩
                      case round =>
                        obtain ⟨t, rfl, ht, hin, d, hdr⟩ := hrel
                        have hhp : wr.heap = w2.heap := by rw [hdr]; rfl
                        have hx2 := H2X.out
                        have hy2 := H2Y.out
                        rw [← hhp] at hx2 hy2
                        clear hhp
                        have hix3 : IntsAt (fun _ => True) wr (.slice Ax nx cx) x.ins := by rw [hdr]; exact HIX2.out
                        have hiy3 : IntsAt (fun _ => True) wr (.slice Ay nx cy) y.ins := by rw [hdr]; exact HIY2.out
                        obtain ⟨⟨r0, r1, r2, r3, r4, r5, r6⟩, _⟩ := box7 hx2
                        obtain ⟨⟨s0, s1, s2, s3, s4, s5, s6⟩, _⟩ := box7 hy2
                        have HIN := Lib.hid hin
                        have HDR := Lib.hid hdr
                        clear hx2 hy2 hin hdr r0 r2 r3 r4 r5 r6 s0 s2 s3 s4 s5 s6
                        by_cases htl : t < nx
                        · obtain ⟨xi, hxi⟩ : ∃ z, x.ins[t]? = some z := ⟨_, List.getElem?_eq_getElem (by rw [HNX.out]; exact htl)⟩
                          obtain ⟨yi, hyi⟩ : ∃ z, y.ins[t]? = some z := ⟨_, List.getElem?_eq_getElem (by rw [HNY.out]; exact htl)⟩
                          obtain ⟨xb, xo, rfl, _, hxc⟩ := hix3.at (by omega)
                          obtain ⟨yb, yo, rfl, _, hyc⟩ := hiy3.at (by omega)
                          have x0 := hxc t xi hxi
                          have y0 := hyc t yi hyi
                          have HXI := Lib.hid hxi
                          have HYI := Lib.hid hyi
                          have HTL := Lib.hid htl
                          have htI : (t : Int) < (nx : Int) := by omega
                          clear hxc hyc hix3 hiy3 hxi hyi
                          by_cases hxy : xi = yi
                          · subst hxy
                            go_wp2_with fail
                            go_quiet (fail)
                            go_wp2_with fail
                            go_roundw
                            case rel =>
                              refine ⟨t + 1, by go_num, by have := HTL.out; omega, fun j hj => ?_, ?_⟩
                              · by_cases hjt : j = t
                                · subst hjt; rw [HXI.out, HYI.out]
                                · exact HIN.out j (by omega)
                              · have h := HDR.out
                                exact ⟨_, by rw [h, World.drewN_drewN]⟩
                            case measure => have := HTL.out; simp [intOf]; omega
                          · have hb1 : (xi == yi) = false := beq_eq_false_iff_ne.2 hxy
                            have hb2 : (xi != yi) = true := bne_iff_ne.2 hxy
                            obtain rfl := HNE.out (fun e => hxy (by have h1 := HXI.out; rw [e, HYI.out] at h1; exact (Option.some.inj h1).symm))
                            go_wp2_with fail
                            go_quiet (fail)
                            go_wp2_with fail
                            go_ret
                            refine ⟨rfl, ?_⟩
                            have h := HDR.out
                            rw [h]
                            exact lowN (lowN HBF2.out _) _
                        · obtain rfl : t = nx := by omega
                          have hins : x.ins = y.ins := by
                            apply List.ext_getElem?
                            intro j
                            by_cases hj : j < t
                            · exact HIN.out j hj
                            · rw [List.getElem?_eq_none (by rw [HNX.out]; omega), List.getElem?_eq_none (by rw [HNY.out]; omega)]
                          have hxy : x = y := opr_ext HF0.out HF1.out HF2.out HF3.out HF4.out HF5.out hins
                          have HXY := Lib.hid hxy
                          clear hins hxy hix3 hiy3
                          go_wp2_with fail
                          go_roundw
                          case rel =>
                            refine ⟨k + 1, by go_num, by have := HLT.out; omega, fun j hj => ?_, ?_⟩
                            · by_cases hjk : j = k
                              · subst hjk; rw [HX.out, HY.out, HXY.out]
                              · exact HSM.out j (by omega)
                            · have h := HDR.out
                              rw [h]
                              exact lowN HB2.out _
                          case measure => have := HLT.out; simp [intOf]; omega
                    · have hb1 : ((nx : Int) == (ny : Int)) = false := by rw [beq_eq_false_iff_ne]; omega
                      have hb2 : ((nx : Int) != (ny : Int)) = true := by rw [bne_iff_ne]; omega
                      obtain rfl := HNE.out (fun e => hnn (by rw [← HNX.out, ← HNY.out, e]))
                      go_wp2_with fail
                      go_ret
                      exact ⟨rfl, HBF.out _ _⟩
                  · obtain rfl := HNE.out (fun e => hf5 (by rw [e]))
                    have hb1 : (((x.lim : Nat) : Int) == ((y.lim : Nat) : Int)) = false := by rw [beq_eq_false_iff_ne]; omega
                    have hb2 : (((x.lim : Nat) : Int) != ((y.lim : Nat) : Int)) = true := by rw [bne_iff_ne]; omega
                    go_wp2_with fail
                    go_ret
                    exact ⟨rfl, HBF.out _ _⟩
                · obtain rfl := HNE.out (fun e => hf4 (by rw [e]))
                  have hb1 : (x.test == y.test) = false := by rw [beq_eq_false_iff_ne]; omega
                  have hb2 : (x.test != y.test) = true := by rw [bne_iff_ne]; omega
                  go_wp2_with fail
                  go_ret
                  exact ⟨rfl, HBF.out _ _⟩
              · obtain rfl := HNE.out (fun e => hf3 (by rw [e]))
                have hb1 : (x.rounds == y.rounds) = false := by rw [beq_eq_false_iff_ne]; omega
                have hb2 : (x.rounds != y.rounds) = true := by rw [bne_iff_ne]; omega
                go_wp2_with fail
                go_ret
                exact ⟨rfl, HBF.out _ _⟩
            · obtain rfl := HNE.out (fun e => hf2 (by rw [e]))
              have hb1 : (((x.num : Nat) : Int) == ((y.num : Nat) : Int)) = false := by rw [beq_eq_false_iff_ne]; omega
              have hb2 : (((x.num : Nat) : Int) != ((y.num : Nat) : Int)) = true := by rw [bne_iff_ne]; omega
              go_wp2_with fail
              go_ret
              exact ⟨rfl, HBF.out _ _⟩
          · obtain rfl := HNE.out (fun e => hf1 (by rw [e]))
            have hb1 : (x.arg == y.arg) = false := by rw [beq_eq_false_iff_ne]; omega
            have hb2 : (x.arg != y.arg) = true := by rw [bne_iff_ne]; omega
            go_wp2_with fail
            go_ret
            exact ⟨rfl, HBF.out _ _⟩
        · obtain rfl := HNE.out (fun e => hf0 (by rw [e]))
          have hb1 : (x.kind == y.kind) = false := by rw [beq_eq_false_iff_ne]; omega
          have hb2 : (x.kind != y.kind) = true := by rw [bne_iff_ne]; omega
          go_wp2_with fail
          go_ret
          exact ⟨rfl, HBF.out _ _⟩
      · obtain rfl : k = len := by omega
        obtain rfl : g = true := HG.out.2 (by
          apply List.ext_getElem?
          intro j
          by_cases hj : j < k
          · exact HSM.out j hj
          · rw [List.getElem?_eq_none (by rw [HL.out]; omega), List.getElem?_eq_none (by rw [HL2.out]; omega)])
        go_wp2_with fail
        go_ret
        exact ⟨rfl, HBW.out⟩
  · obtain rfl : g = false := b_false HG.out fun h => hll (by rw [← HL.out, ← HL2.out, h])
    have hI1 : ((len : Int) == (len2 : Int)) = false := by rw [beq_eq_false_iff_ne]; omega
    have hI2 : ((len : Int) != (len2 : Int)) = true := by rw [bne_iff_ne]; omega
    go_enter Try.func16, Try.ntmps16
    go_wp2_with fail
    go_ret
    exact ⟨rfl, HB0.out⟩

end Go.Proofs.Ytbgmhjcccabmmaa.Graph
