/-
  A row of operators of the call's own that grows; the operators' inputs lie in blocks that aren't the row's. Contract of readGraph. Contract of read.
-/
import Derived.Test.YtffehnojcajhiaaEgF
import Derived.Test.YtffehnojcajhiaaEgG
namespace Go.Proofs.Ytffehnojcajhiaa.Wire.Entry
open Go Go.RowKit Go.Proofs.Ytffehnojcajhiaa.Law

/-- Seven cells. -/
def cellsP (p : Opr × Value) : List Value := [.int .i64 p.1.kind, p.2, .int .i64 p.1.arg, .int .u32 (p.1.num : Nat), .int .i64 p.1.rounds, .int .i64 p.1.test, .int .u32 (p.1.lim : Nat)]
def flatP : List (Opr × Value) → List Value
  | [] => []
  | p :: r => cellsP p ++ flatP r
theorem flatP_append : ∀ a b : List (Opr × Value), flatP (a ++ b) = flatP a ++ flatP b
  | [], _ => rfl
  | p :: a, b => by rw [List.cons_append, flatP, flatP, flatP_append a b, List.append_assoc]
theorem flatP_length : ∀ l : List (Opr × Value), (flatP l).length = l.length * 7
  | [] => rfl
  | p :: r => by rw [flatP, List.length_append, flatP_length r, List.length_cons]; show 7 + r.length * 7 = _; omega
theorem flatP_get : ∀ {l : List (Opr × Value)} {j : Nat} {p : Opr × Value}, l[j]? = some p → ∀ i, i < 7 → (flatP l)[j * 7 + i]? = (cellsP p)[i]?
  | [], j, p, h, _, _ => by simp at h
  | q :: r, 0, p, h, i, hi => by
    obtain rfl : q = p := by simpa using h
    rw [flatP, Nat.zero_mul, Nat.zero_add, List.getElem?_append_left (by show i < 7; exact hi)]
  | q :: r, j + 1, p, h, i, hi => by
    have := flatP_get (l := r) (j := j) (p := p) (by simpa using h) i hi
    rw [flatP, List.getElem?_append_right (by show 7 ≤ _; omega)]
    rw [← this]
    congr 1
    show (j + 1) * 7 + i - 7 = j * 7 + i
    omega
theorem flatP_one : ∀ {l : List (Opr × Value)}, (∀ p ∈ l, p.2.oneCell' = true) → ∀ u ∈ flatP l, u.oneCell' = true
  | [], _, u, h => by cases h
  | p :: r, hl, u, h => by
    rw [flatP] at h
    rcases List.mem_append.1 h with h | h
    · simp only [cellsP, List.mem_cons, List.not_mem_nil, or_false] at h
      rcases h with rfl | rfl | rfl | rfl | rfl | rfl | rfl
      · rfl
      · exact hl p List.mem_cons_self
      · rfl
      · rfl
      · rfl
      · rfl
      · rfl
    · exact flatP_one (fun q hq => hl q (List.mem_cons_of_mem _ hq)) u h

/-- A growing row of operators. -/
def GrowO (lo : Nat) (W : World) (v : Value) (l : List Opr) : Prop :=
  ∃ pl : List (Opr × Value), pl.map Prod.fst = l ∧ W.ownsRow lo 47 7 v pl.length (flatP pl) ∧ ∀ p ∈ pl, IntsAt (fun b => lo ≤ b ∧ b < W.heap.size ∧ v.ownBlock ≠ some b) W p.2 p.1.ins

theorem GrowO.nil (W : World) (lo : Nat) : GrowO lo W (.slice none 0 0) [] := ⟨[], rfl, World.ownsRow_nil W lo 47 7, fun p h => by cases h⟩
theorem GrowO.own {lo : Nat} {W : World} {v : Value} {l : List Opr} (h : GrowO lo W v l) {g : Nat} (hg : v.ownBlock = some g) : lo ≤ g ∧ g < W.heap.size := by
  obtain ⟨pl, _, h2, _⟩ := h
  exact h2.lt g hg
theorem GrowO.form {lo : Nat} {W : World} {v : Value} {l : List Opr} (h : GrowO lo W v l) : ∃ A cap, v = .slice A l.length cap ∧ l.length ≤ cap := by
  obtain ⟨pl, rfl, h2, _⟩ := h
  rw [List.length_map]
  rcases h2.2 with ⟨rfl, hz⟩ | ⟨g, cap, cur, rfl, _, _, hn, _⟩
  · exact ⟨none, 0, by rw [hz], by omega⟩
  · exact ⟨_, cap, rfl, hn⟩
theorem GrowO.keep {lo : Nat} {W W' : World} {v : Value} {l : List Opr} (h : GrowO lo W v l) (hb : ∀ b, lo ≤ b → b < W.heap.size → W'.heap[b]? = W.heap[b]?) (hs : W.heap.size ≤ W'.heap.size) : GrowO lo W' v l := by
  have hown := fun (g : Nat) (hg : v.ownBlock = some g) => h.own hg
  obtain ⟨pl, h1, h2, h3⟩ := h
  refine ⟨pl, h1, ⟨h2.1, ?_⟩, fun p hp => (h3 p hp).keep (fun b h => hb b h.1 h.2.1) (fun b h => ⟨h.1, Nat.lt_of_lt_of_le h.2.1 hs, h.2.2⟩)⟩
  rcases h2.2 with h0 | ⟨g, cap, cur, rfl, q1, q2, q3⟩
  · exact .inl h0
  · exact .inr ⟨g, cap, cur, rfl, q1, (hb g q1 (hown g rfl).2).trans q2, q3⟩
theorem GrowO.below {lo : Nat} {W W' : World} {v : Value} {l : List Opr} (h : GrowO lo W v l) (hB : Below W.heap.size W W') : GrowO lo W' v l := h.keep (fun b _ hb => hB.block b hb) hB.size
theorem GrowO.ops {lo : Nat} {W : World} {v : Value} {l : List Opr} (h : GrowO lo W v l) : OpsAt (fun b => lo ≤ b ∧ b < W.heap.size) W v l := by
  have hown := fun (g : Nat) (hg : v.ownBlock = some g) => h.own hg
  obtain ⟨pl, rfl, h2, h3⟩ := h
  have hcell := fun (g : Nat) (hg : v.ownBlock = some g) => World.ownsRow.cells h2 hg
  rcases h2.2 with ⟨rfl, hz⟩ | ⟨g, cap, cur, rfl, _, _, hn, _⟩
  · obtain rfl := List.eq_nil_of_length_eq_zero hz
    exact OpsAt.nil _ _
  · refine ⟨_, cap, by rw [List.length_map], by rw [List.length_map]; exact hn, (fun h => by cases h), fun _ => ⟨g, 0, rfl, hown g rfl, fun j x hx => ?_⟩⟩
    rw [List.getElem?_map] at hx
    match hp : pl[j]? with
    | none => rw [hp] at hx; cases hx
    | some p =>
      rw [hp] at hx
      obtain rfl : p.1 = x := by simpa using hx
      have hq : ∀ i u, i < 7 → (cellsP p)[i]? = some u → W.cell? ⟨g, 0 + j * 7 + i, none⟩ = some u := fun i u hi hu => by
        have := hcell g rfl (j * 7 + i) u ((flatP_get hp i hi).trans hu)
        rw [Addr.add_lit] at this
        rw [show 0 + j * 7 + i = 0 + (j * 7 + i) by omega]
        exact this
      exact ⟨p.2, ⟨hq 0 _ (by omega) rfl, hq 1 _ (by omega) rfl, hq 2 _ (by omega) rfl, hq 3 _ (by omega) rfl, hq 4 _ (by omega) rfl, hq 5 _ (by omega) rfl, hq 6 _ (by omega) rfl⟩, (h3 p (List.mem_of_getElem? hp)).mono (fun b hb => ⟨hb.1, hb.2.1⟩)⟩

theorem info_op : (Try.prog.info? 47).map (fun i => (i.zero, i.size, i.bytes)) = some (some (.agg #[.int .i64 0, .slice none 0 0, .int .i64 0, .int .u32 0, .int .i64 0, .int .i64 0, .int .u32 0]), 7, 72) := by kernel_rfl

/-- One more behind: it lies as a literal in a new block. -/
theorem GrowO.append {lo : Nat} {W : World} {v : Value} {l : List Opr} (h : GrowO lo W v l) (hlo : lo ≤ W.heap.size) (o : Opr) (A : Option Addr) (n c : Nat) (hu : IntsAt (fun b => lo ≤ b ∧ b < W.heap.size ∧ v.ownBlock ≠ some b) W (.slice A n c) o.ins) (ty : TypeId) (hroom : (l.length + 1) * 72 ≤ 140737488355328) :
    ∃ v' W', (Builtin.append_ #[25, 25] ty #[v, .slice (some ⟨W.heap.size, 0, none⟩) 1 1]).run Try.prog (W.alloc (.cells #[.int .i64 o.kind, .slice A n c, .int .i64 o.arg, .int .u32 (o.num : Nat), .int .i64 o.rounds, .int .i64 o.test, .int .u32 (o.lim : Nat)] 47)) = .ok v' W' ∧ GrowO lo W' v' (l ++ [o]) ∧ W.grownBy W' v.ownBlock ∧ Below lo W W' := by
  obtain ⟨i0, hi, hz0, hz1, hz2⟩ := info_parts info_op
  have hown := fun (g : Nat) (hg : v.ownBlock = some g) => h.own hg
  have h0 := h.below ((Below.refl _ _).alloc (Nat.le_refl _) (.cells #[.int .i64 o.kind, .slice A n c, .int .i64 o.arg, .int .u32 (o.num : Nat), .int .i64 o.rounds, .int .i64 o.test, .int .u32 (o.lim : Nat)] 47))
  obtain ⟨pl, rfl, h2, h3⟩ := h
  rw [List.length_map] at hroom
  have h2' : (W.alloc (.cells #[.int .i64 o.kind, .slice A n c, .int .i64 o.arg, .int .u32 (o.num : Nat), .int .i64 o.rounds, .int .i64 o.test, .int .u32 (o.lim : Nat)] 47)).ownsRow lo 47 7 v pl.length (flatP pl) := h2.alloc _
  have hf : flatP [((o, .slice A n c) : Opr × Value)] = cellsP (o, .slice A n c) := by rw [flatP, flatP, List.append_nil]
  have hnews : ∀ (j : Nat) (x : Value), (flatP [((o, .slice A n c) : Opr × Value)])[j]? = some x → (W.alloc (.cells #[.int .i64 o.kind, .slice A n c, .int .i64 o.arg, .int .u32 (o.num : Nat), .int .i64 o.rounds, .int .i64 o.test, .int .u32 (o.lim : Nat)] 47)).cell? ((⟨W.heap.size, 0, none⟩ : Addr).add j) = some x := by
    intro j x hx
    rw [hf] at hx
    rw [Addr.add_lit, Nat.zero_add]
    refine cell_new W _ _ j x ?_
    rw [← Array.getElem?_toList]
    exact hx
  have hone : ∀ u ∈ flatP [((o, .slice A n c) : Opr × Value)], u.oneCell' = true := flatP_one (fun p hp => by
    obtain rfl : p = (o, .slice A n c) := by simpa using hp
    rfl)
  obtain ⟨v', W', hrun, g2, g3, _, g5⟩ := run_append_own_at (P := Try.prog) (W.alloc (.cells #[.int .i64 o.kind, .slice A n c, .int .i64 o.arg, .int .u32 (o.num : Nat), .int .i64 o.rounds, .int .i64 o.test, .int .u32 (o.lim : Nat)] 47)) lo 25 ty 47 i0 _ 7 72 Try.underlying25 hi hz0 hz1 hz2 rfl (by decide) v pl.length (flatP pl) h2' ⟨W.heap.size, 0, none⟩ 1 1 (flatP [((o, .slice A n c) : Opr × Value)]) (flatP_length _) hnews hone (by simp only [maxLen]; omega) (by omega) (by simp; omega)
  have hG : W.grownBy W' v.ownBlock := (World.grownBy_alloc W _ _).trans g3
  have hsz : W.heap.size + 1 ≤ W'.heap.size := by have := g3.size; simpa using this
  have hsep : ∀ b, b < W.heap.size → v.ownBlock ≠ some b → v'.ownBlock ≠ some b := by
    intro b hb hne e
    rcases g5 with h4 | h4
    · exact hne (by rw [← h4]; exact e)
    · rw [h4, World.size_alloc] at e; simp only [Option.some.injEq] at e; omega
  refine ⟨v', W', hrun, ⟨pl ++ [(o, .slice A n c)], by simp, by rw [List.length_append, flatP_append]; exact g2, fun p hp => ?_⟩, hG, (Below.refl _ _).grown hG hlo (fun k hk => (hown k hk).1)⟩
  rcases List.mem_append.1 hp with hp | hp
  · exact (h3 p hp).keep (fun b hb => hG.block b hb.2.1 (fun e => hb.2.2 e.symm)) (fun b hb => ⟨hb.1, by omega, hsep b hb.2.1 hb.2.2⟩)
  · obtain rfl : p = (o, .slice A n c) := by simpa using hp
    exact hu.keep (fun b hb => hG.block b hb.2.1 (fun e => hb.2.2 e.symm)) (fun b hb => ⟨hb.1, by omega, hsep b hb.2.1 hb.2.2⟩)

end Go.Proofs.Ytffehnojcajhiaa.Wire.Entry

namespace Go.Proofs.Ytffehnojcajhiaa.Wire.Entry
open Go Go.RowKit Go.Proofs.Ytffehnojcajhiaa.Law

theorem rdOps_snoc {x : Item} {o : Opr} (hx : rdOp x = some o) : ∀ {l : List Item} {ops : List Opr}, rdOps l = some ops → rdOps (l ++ [x]) = some (ops ++ [o])
  | [], ops, h => by
    rw [rdOps] at h
    obtain rfl := Option.some.inj h
    show rdOps [x] = _
    rw [rdOps, hx]
    rfl
  | y :: r, ops, h => by
    rw [rdOps] at h
    match hy : rdOp y with
    | none => rw [hy] at h; cases h
    | some oy =>
      rw [hy] at h
      dsimp only at h
      match hr : rdOps r with
      | none => rw [hr] at h; cases h
      | some l =>
        rw [hr] at h
        obtain rfl := Option.some.inj h
        rw [List.cons_append, rdOps, hy]
        dsimp only
        rw [rdOps_snoc hx hr]
        rfl
theorem rdOps_bad {x : Item} (hx : rdOp x = none) : ∀ {l : List Item}, x ∈ l → rdOps l = none
  | [], h => by cases h
  | y :: r, h => by
    rw [rdOps]
    rcases List.mem_cons.1 h with rfl | h
    · rw [hx]
    · rw [rdOps_bad hx h]
      cases rdOp y <;> rfl
theorem rdOps_length : ∀ {l : List Item} {ops : List Opr}, rdOps l = some ops → ops.length = l.length
  | [], ops, h => by
    rw [rdOps] at h
    obtain rfl := Option.some.inj h
    rfl
  | y :: r, ops, h => by
    rw [rdOps] at h
    match hy : rdOp y with
    | none => rw [hy] at h; cases h
    | some oy =>
      rw [hy] at h
      dsimp only at h
      match hr : rdOps r with
      | none => rw [hr] at h; cases h
      | some l =>
        rw [hr] at h
        obtain rfl := Option.some.inj h
        rw [List.length_cons, List.length_cons, rdOps_length hr]
theorem kids_small {l : List Item} {x y : Item} (hs : nodesL l ≤ 4096) (hx : x ∈ l) (hy : y ∈ x.kids) : y.kids.length ≤ 1048576 := by
  obtain ⟨i, hi⟩ := List.getElem?_of_mem hx
  obtain ⟨j, hj⟩ := List.getElem?_of_mem hy
  have h1 := nodesL_kids hi
  have h2 := nodesL_kids hj
  have h3 := length_le_nodes y.kids
  omega
theorem kids_few {l : List Item} {x : Item} (hs : nodesL l ≤ 4096) (hx : x ∈ l) : x.kids.length ≤ 4096 ∧ nodesL x.kids ≤ 4096 := by
  obtain ⟨i, hi⟩ := List.getElem?_of_mem hx
  have h1 := nodesL_kids hi
  have h3 := length_le_nodes x.kids
  omega

abbrev Z1 : Obj := .cells #[.slice none 0 0] 27
theorem box1 {W : World} {b : Nat} {a : Value} {T : TypeId} (h : W.heap[b]? = some (.cells #[a] T)) : W.cell? ⟨b, 0, none⟩ = some a ∧ W.frozen? ⟨b, 0, none⟩ = false := by
  refine ⟨?_, ?_⟩ <;> simp [World.cell?, World.frozen?, h]
theorem stored1 {W : World} {b : Nat} {a : Value} {T : TypeId} (h : W.heap[b]? = some (.cells #[a] T)) (v : Value) : (W.setCell ⟨b, 0, none⟩ v).heap[b]? = some (.cells #[v] T) := by
  simp [World.setCell, Array.getElem?_modify, h]

/-- A graph that was read, and whether it was one. -/
def RetGraph (w : World) (r : Option (List Opr)) (e : Ending) (W : World) : Prop :=
  ∃ (A : Option Addr) (n c : Nat), e = .returned (.tuple #[.agg #[.slice A n c], .bool r.isSome]) ∧ (∀ ops, r = some ops → OpsAt (fun k => w.heap.size ≤ k ∧ k < W.heap.size) W (.slice A n c) ops) ∧ Below w.heap.size w W

/-- What lies as the operators are read. -/
structure RdG (w W : World) (b g : Nat) (l : List Item) (A : Option Addr) (n c : Nat) (ops : List Opr) : Prop where
  low : Below b w W
  res : W.heap[b]? = some Z1
  box : W.heap[g]? = some (.cells #[.slice A n c] 27)
  far : b < g
  grow : GrowO (g + 1) W (.slice A n c) ops
  read : rdOps l = some ops

set_option maxRecDepth 100000 in
set_option maxHeartbeats 800000 in
theorem readGraph_calls (l : List Item) (hs : nodesL l ≤ 4096) (v : Value) (w : World) (hI : Old w.heap.size w v l) : Calls Try.prog 43 #[v] w (RetGraph w (rdGraph l)) := by
  obtain ⟨A, cap, rfl, _⟩ := hI.form
  have hl : l.length ≤ 1048576 := by have := length_le_nodes l; omega
  obtain ⟨g, hg⟩ := exB (kindsL l = [2])
  have hB0 := ((Below.refl w.heap.size w).alloc (Nat.le_refl _) Z1).alloc (by simp) (.cells #[.int .i64 2] 3)
  have hlit := ints_lit (w.alloc Z1) #[.int .i64 2] [2] 1 (w.heap.size + 1) (by simp) rfl rfl
  have CK := Lib.hid (kinds_calls l [2] hl _ _ _ (hI.on hB0) hlit g hg)
  have hR0 : ((w.alloc Z1).alloc (.cells #[.int .i64 2] 3)).heap[w.heap.size]? = some Z1 :=
    ((Below.refl _ _).alloc (Nat.le_refl _) _ |>.block w.heap.size (by simp)).trans (heap_alloc_new w _)
  obtain ⟨o, ho⟩ : ∃ o, rdGraph l = o := ⟨_, rfl⟩
  rw [ho]
  obtain ⟨len, hlen⟩ : ∃ len, l.length = len := ⟨_, rfl⟩
  rw [hlen] at hI CK ⊢
  have HB0 := Lib.hid hB0
  have HR0 := Lib.hid hR0
  have HI := Lib.hid hI
  have HG := Lib.hid hg
  have HO := Lib.hid ho
  have HL := Lib.hid hlen
  have HS := Lib.hid hs
  clear hB0 hI hg ho hl hlen hR0 hlit hs
  go_enter Try.func43, Try.ntmps43
  go_wp2_with fail
  refine CK.out.mono ?_
  rintro e w1 ⟨rfl, hB1⟩
  have hbox := (hB1.block w.heap.size (by simp; omega)).trans HR0.out
  have hB01 := HB0.out.trans (hB1.mono (by simp; omega))
  have hs1 : w.heap.size < w1.heap.size := by have := hB1.size; simp at this; omega
  have HB1 := Lib.hid hB01
  have HBX := Lib.hid hbox
  obtain ⟨q0, z0⟩ := box1 hbox
  clear hB1 HB0 CK hbox hB01 HR0
  cases g with
  | false =>
    have ho : o = none := by
      rw [← HO.out]
      match l, HG.out with
      | [a], h =>
        rw [rdGraph, if_neg]
        intro hka
        have := h.2 (by simp [kindsL, hka])
        cases this
      | [], _ => rfl
      | _ :: _ :: _, _ => rfl
    subst ho
    have hfin := stored1 HBX.out (.slice none 0 0)
    have hBf := HB1.out.setCell (p := ⟨w.heap.size, 0, none⟩) (Nat.le_refl _) (.slice none 0 0)
    have HF := Lib.hid hfin
    have HBF := Lib.hid hBf
    clear hfin hBf HG HO
    go_wp2_with fail
    have hfin := HF.out
    have hBf := HBF.out
    clear HF HBF q0 z0
    generalize (w1.setCell ⟨w.heap.size, 0, none⟩ (.slice none 0 0)) = W at hfin hBf ⊢
    obtain ⟨p0, _⟩ := box1 hfin
    exact bodyPost_ret (v := .tuple #[.agg #[.slice none 0 0], .bool false]) (by simp [results, Try.results43, go_sem, p0]) rfl ⟨none, 0, 0, rfl, (fun ops h => by cases h), hBf⟩
  | true =>
    have hk := HG.out.1 rfl
    match l, hk with
    | [], hk => simp [kindsL] at hk
    | _ :: _ :: _, hk => simp [kindsL] at hk
    | [x], hk =>
      simp only [kindsL, List.map_cons, List.map_nil, List.cons.injEq, and_true] at hk
      obtain rfl : len = 1 := HL.out.symm
      have ho : o = rdOps x.kids := by rw [← HO.out, rdGraph, if_pos hk]
      have HO2 := Lib.hid ho
      clear ho
      obtain ⟨ib, io, rfl, hib, hcells⟩ := (Items.low HB1.out HI.out).at (by omega)
      obtain ⟨ux, ⟨a0, a1, a2, a3⟩, hix⟩ := hcells 0 x rfl
      simp only [Nat.zero_mul, Nat.add_zero] at a0 a1 a2 a3
      obtain ⟨Ax, cx, rfl, _⟩ := hix.form
      obtain ⟨n, hn⟩ : ∃ n, x.kids.length = n := ⟨_, rfl⟩
      rw [hn] at a3 hix
      have hfew := kids_few HS.out (List.mem_singleton.2 rfl : x ∈ [x])
      have hn1 : n ≤ 4096 := by omega
      obtain ⟨b, hb⟩ : ∃ b, w.heap.size = b := ⟨_, rfl⟩
      have hstart : RdG w (w1.alloc Z1) b w1.heap.size (x.kids.take 0) none 0 0 [] := by
        rw [← hb]
        exact ⟨HB1.out.alloc (by omega) _, (Below.heap_alloc w1 _ _ hs1).trans HBX.out, heap_alloc_new w1 _, hs1, GrowO.nil _ _, rfl⟩
      have HST := Lib.hid hstart
      have HN := Lib.hid hn
      have HIX := Lib.hid hix
      have HBB := Lib.hid hb
      have hibw : ib < w1.heap.size := by omega
      clear hcells hk HG HO HL HI hix hn hfew hstart hb
      go_wp2_with fail
      rw [HBB.out]
      obtain ⟨g, hgg⟩ : ∃ g, w1.heap.size = g := ⟨_, rfl⟩
      rw [hgg] at HST ⊢
      have HGG := Lib.hid hgg
      have HIX1 : Hid (Old w1.heap.size w1 (.slice Ax n cx) x.kids) := Lib.hid (HIX.out.mono (fun b hb => by omega))
      clear hgg a0 a1 a2 a3 HIX
      go_loopw [19] (fun i wr => ∃ k : Nat, i = .int .i64 k ∧ k ≤ n ∧ Hid (∃ A n' c ops, RdG w wr b g (x.kids.take k) A n' c ops ∧ Below g w1 wr)) (fun i _ => n - (intOf i).toNat)
      case atStart => exact ⟨0, rfl, Nat.zero_le _, Lib.hid ⟨_, _, _, _, HST.out, by rw [← HGG.out]; exact (Below.refl _ _).alloc (Nat.le_refl _) _⟩⟩
      case round =>
        obtain ⟨k, rfl, hk, hR⟩ := hrel
        obtain ⟨A, n', c, ops, hR, hBg⟩ := hR.out
        have hgw := lt_of_some hR.box
        have hfar := hR.far
        have HR := Lib.hid hR
        have HBG := Lib.hid hBg
        clear hR hBg
        by_cases hlt : k < n
        · obtain ⟨y, hy⟩ : ∃ y, x.kids[k]? = some y := ⟨_, List.getElem?_eq_getElem (by rw [HN.out]; exact hlt)⟩
          have hym := List.mem_of_getElem? hy
          have hIw : Old w1.heap.size wr (.slice Ax n cx) x.kids := Items.low (by rw [HGG.out]; exact HBG.out) HIX1.out
          obtain ⟨jb, jo, rfl, hjb, hcells⟩ := hIw.at (by omega)
          obtain ⟨uy, ⟨y0, y1, y2, y3⟩, hiy⟩ := hcells k y hy
          obtain ⟨Ay, cy, rfl, _⟩ := hiy.form
          have hOy : Old (wr.alloc (.cells #[.int .i64 y.kind, .int .i64 y.n, .string y.s, .slice Ay y.kids.length cy] 71)).heap.size (wr.alloc (.cells #[.int .i64 y.kind, .int .i64 y.n, .string y.s, .slice Ay y.kids.length cy] 71)) (.slice Ay y.kids.length cy) y.kids :=
            (Items.low ((Below.refl w1.heap.size wr).alloc (by rw [HGG.out]; omega) _) hiy).mono (fun b hb => by rw [HGG.out] at hb; simp; omega)
          have CR := Lib.hid (readOp_calls y Ay cy _ hOy (fun z hz => kids_small (l := x.kids) (kids_few HS.out (List.mem_singleton.2 rfl : x ∈ [x])).2 hym hz))
          obtain ⟨ly, hly⟩ : ∃ ly, y.kids.length = ly := ⟨_, rfl⟩
          unfold itemV at CR
          rw [hly] at y3 CR
          have hjw : jb < wr.heap.size := by have := HGG.out; omega
          have HY := Lib.hid hy
          have HYM := Lib.hid hym
          have HLT := Lib.hid hlt
          have hBa := (Below.refl g wr).alloc (by omega) (.cells #[.int .i64 y.kind, .int .i64 y.n, .string y.s, .slice Ay ly cy] 71)
          have HBA := Lib.hid hBa
          clear hcells hiy hy hym hIw hOy hly hBa
          go_wp2_with fail
          refine CR.out.mono ?_
          rintro e w2 ⟨oy, Ao, no, co, rfl, hoy, hB2⟩
          have hs2 : wr.heap.size + 1 ≤ w2.heap.size := by have := hB2.size; simpa using this
          obtain ⟨r, hr⟩ : ∃ r, rdOp y = r := ⟨_, rfl⟩
          rw [hr] at hoy ⊢
          have HRY := Lib.hid hr
          have HOY := Lib.hid hoy
          have hBw : Below g wr w2 := HBA.out.trans (hB2.mono (by simp; omega))
          have hwide : ∀ j, j < wr.heap.size → w2.heap[j]? = wr.heap[j]? := fun j hj => (hB2.block j (by simp; omega)).trans (Below.heap_alloc wr _ j hj)
          have HWD := Lib.hid hwide
          have HBW := Lib.hid hBw
          clear hr hoy hBw hB2 CR y0 y1 y2 y3 hwide
          have hg2 : g < w2.heap.size := by omega
          have hb2 : b < w2.heap.size := by omega
          obtain ⟨gc, gf⟩ := box1 ((HWD.out g (by omega)).trans HR.out.box)
          obtain ⟨bc, bf⟩ := box1 ((HWD.out b (by omega)).trans HR.out.res)
          cases r with
          | none =>
            obtain rfl : o = none := HO2.out.trans (rdOps_bad HRY.out HYM.out)
            have hres : w2.heap[b]? = some Z1 := (HWD.out b (by omega)).trans HR.out.res
            have hfin : ((w2.setCell ⟨b, 0, none⟩ (.slice none 0 0)).alloc (.cells #[.int .i64 oy.kind, .slice Ao no co, .int .i64 oy.arg, .int .u32 (oy.num : Nat), .int .i64 oy.rounds, .int .i64 oy.test, .int .u32 (oy.lim : Nat)] 47)).heap[b]? = some Z1 := (Below.heap_alloc _ _ b (by simpa [World.setCell] using hb2)).trans (stored1 hres (.slice none 0 0))
            have hBf : Below b w ((w2.setCell ⟨b, 0, none⟩ (.slice none 0 0)).alloc (.cells #[.int .i64 oy.kind, .slice Ao no co, .int .i64 oy.arg, .int .u32 (oy.num : Nat), .int .i64 oy.rounds, .int .i64 oy.test, .int .u32 (oy.lim : Nat)] 47)) := ((HR.out.low.trans ⟨HBW.out.os, HBW.out.tape, HBW.out.output, HBW.out.size, fun j hj => HWD.out j (by omega)⟩).setCell (p := ⟨b, 0, none⟩) (Nat.le_refl _) _).alloc (by simp [World.setCell]; omega) _
            have HF := Lib.hid hfin
            have HBF := Lib.hid hBf
            clear hres hfin hBf gc gf
            go_wp2_with fail
            have hfin := HF.out
            have hBf := HBF.out
            clear HF HBF bc bf
            generalize ((w2.setCell ⟨b, 0, none⟩ (.slice none 0 0)).alloc (.cells #[.int .i64 oy.kind, .slice Ao no co, .int .i64 oy.arg, .int .u32 (oy.num : Nat), .int .i64 oy.rounds, .int .i64 oy.test, .int .u32 (oy.lim : Nat)] 47)) = W at hfin hBf ⊢
            obtain ⟨p0, _⟩ := box1 hfin
            exact bodyPost_ret (v := .tuple #[.agg #[.slice none 0 0], .bool false]) (by simp [results, Try.results43, go_sem, p0]) rfl ⟨none, 0, 0, rfl, (fun ops h => by cases h), by rw [HBB.out]; exact hBf⟩
          | some o' =>
            obtain ⟨rfl, hint⟩ := HOY.out o' rfl
            have hG2 : GrowO (g + 1) w2 (.slice A n' c) ops := HR.out.grow.keep (fun j _ hj => HWD.out j hj) (by omega)
            have hG3 := hG2.below ((Below.refl w2.heap.size w2).alloc (Nat.le_refl _) (.cells #[.int .i64 oy.kind, .slice Ao no co, .int .i64 oy.arg, .int .u32 (oy.num : Nat), .int .i64 oy.rounds, .int .i64 oy.test, .int .u32 (oy.lim : Nat)] 47))
            have hown := fun (j : Nat) (hj : (Value.slice A n' c).ownBlock = some j) => HR.out.grow.own hj
            have hint3 : IntsAt (fun j => g + 1 ≤ j ∧ j < (w2.alloc (.cells #[.int .i64 oy.kind, .slice Ao no co, .int .i64 oy.arg, .int .u32 (oy.num : Nat), .int .i64 oy.rounds, .int .i64 oy.test, .int .u32 (oy.lim : Nat)] 47)).heap.size ∧ (Value.slice A n' c).ownBlock ≠ some j) (w2.alloc (.cells #[.int .i64 oy.kind, .slice Ao no co, .int .i64 oy.arg, .int .u32 (oy.num : Nat), .int .i64 oy.rounds, .int .i64 oy.test, .int .u32 (oy.lim : Nat)] 47)) (.slice Ao no co) oy.ins :=
              hint.keep (fun j hj => Below.heap_alloc w2 _ j hj.2) (fun j hj => ⟨by have := hj.1; simp at this; omega, by have := hj.2; simp; omega, fun e => by have h1 := hown j e; have := hj.1; simp at this; omega⟩)
            have hlen : ops.length ≤ 4096 := by rw [rdOps_length HR.out.read, List.length_take]; omega
            obtain ⟨v', W', hrun, hG4, hgr, hB4⟩ := hG3.append (by simp; omega) oy Ao no co hint3 25 (by omega)
            obtain ⟨A', c', hv', _⟩ := hG4.form
            obtain ⟨m', hm'⟩ : ∃ m', (ops ++ [oy]).length = m' := ⟨_, rfl⟩
            rw [hm'] at hv'
            subst hv'
            have hsW : w2.heap.size + 1 ≤ W'.heap.size := by have := hB4.size; simpa using this
            have hkW : ∀ j, j ≤ g → W'.heap[j]? = wr.heap[j]? := fun j hj => (hB4.block j (by omega)).trans ((Below.heap_alloc w2 _ j (by omega)).trans (HWD.out j (by omega)))
            have hboxW : W'.heap[g]? = _ := (hkW g (Nat.le_refl _)).trans HR.out.box
            obtain ⟨gc', gf'⟩ := box1 hboxW
            have hnext : RdG w (W'.setCell ⟨g, 0, none⟩ (.slice A' m' c')) b g (x.kids.take (k + 1)) A' m' c' (ops ++ [oy]) := by
              refine ⟨?_, ?_, stored1 hboxW _, hfar, ?_, ?_⟩
              · exact (HR.out.low.trans ⟨hB4.os.trans HBW.out.os, hB4.tape.trans HBW.out.tape, hB4.output.trans HBW.out.output, by omega, fun j hj => hkW j (by omega)⟩).setCell (p := ⟨g, 0, none⟩) (by show b ≤ g; omega) _
              · exact (Below.heap_setCell _ _ _ _ (by show b ≠ g; omega)).trans ((hkW b (by omega)).trans HR.out.res)
              · exact hG4.keep (fun j hj _ => Below.heap_setCell _ _ _ _ (by show j ≠ g; omega)) (by simp [World.setCell])
              · rw [take_snoc HY.out]; exact rdOps_snoc HRY.out HR.out.read
            have hbgn : Below g w1 (W'.setCell ⟨g, 0, none⟩ (.slice A' m' c')) := ((HBG.out.trans HBW.out).trans (((Below.refl g w2).alloc (by omega) (.cells #[.int .i64 oy.kind, .slice Ao no co, .int .i64 oy.arg, .int .u32 (oy.num : Nat), .int .i64 oy.rounds, .int .i64 oy.test, .int .u32 (oy.lim : Nat)] 47)).trans (hB4.mono (by omega)))).setCell (p := ⟨g, 0, none⟩) (Nat.le_refl _) _
            have HNX := Lib.hid hnext
            have HBN := Lib.hid hbgn
            rw [World.size_alloc] at hrun
            have HRUN := Lib.hid hrun
            clear hG2 hG3 hint3 hrun hG4 hgr hB4 hkW hboxW hnext hbgn hint hown hm' bc bf
            go_wp2_with (at_builtin; refine wpList_append_ran rfl _ _ _ rfl rfl rfl HRUN.out ?_)
            go_roundw
            case rel => exact ⟨k + 1, by go_num, by have := HLT.out; omega, Lib.hid ⟨_, _, _, _, HNX.out, HBN.out⟩⟩
            case measure => have := HLT.out; simp [intOf]; omega
        · obtain rfl : k = n := by omega
          have hR := HR.out
          rw [List.take_of_length_le (by rw [HN.out]; exact Nat.le_refl _)] at hR
          obtain rfl : o = some ops := HO2.out.trans hR.read
          obtain ⟨gc, gf⟩ := box1 hR.box
          obtain ⟨bc, bf⟩ := box1 hR.res
          have hfin := stored1 hR.res (.slice A n' c)
          have hBf := hR.low.setCell (p := ⟨b, 0, none⟩) (Nat.le_refl _) (.slice A n' c)
          have hops : OpsAt (fun j => b ≤ j ∧ j < (wr.setCell ⟨b, 0, none⟩ (.slice A n' c)).heap.size) (wr.setCell ⟨b, 0, none⟩ (.slice A n' c)) (.slice A n' c) ops :=
            hR.grow.ops.keep (fun j hj => Below.heap_setCell _ _ _ _ (by show j ≠ b; omega)) (fun j hj => ⟨by omega, by have := hj.2; simpa [World.setCell] using this⟩)
          have HF := Lib.hid hfin
          have HBF := Lib.hid hBf
          have HOPS := Lib.hid hops
          clear hfin hBf hops hR HR
          go_wp2_with fail
          have hfin := HF.out
          have hBf := HBF.out
          have hops := HOPS.out
          clear HF HBF HOPS gc gf bc bf
          generalize (wr.setCell ⟨b, 0, none⟩ (.slice A n' c)) = W at hfin hBf hops ⊢
          obtain ⟨p0, _⟩ := box1 hfin
          exact bodyPost_ret (v := .tuple #[.agg #[.slice A n' c], .bool true]) (by simp [results, Try.results43, go_sem, p0]) rfl ⟨A, n', c, rfl, (fun ops' h => by obtain rfl := Option.some.inj h; rw [HBB.out]; exact hops), by rw [HBB.out]; exact hBf⟩

end Go.Proofs.Ytffehnojcajhiaa.Wire.Entry

namespace Go.Proofs.Ytffehnojcajhiaa.Wire.Entry
open Go Go.RowKit Go.Proofs.Ytffehnojcajhiaa.Law

abbrev Z8 : Obj := .cells #[.int .i64 0, .int .i64 0, .int .i64 0, .int .i64 0, .string ⟨#[]⟩, .int .u32 0, .slice none 0 0, .int .i64 0] 29
theorem box8 {W : World} {b : Nat} {a0 a1 a2 a3 a4 a5 a6 a7 : Value} {T : TypeId} (h : W.heap[b]? = some (.cells #[a0, a1, a2, a3, a4, a5, a6, a7] T)) :
    (W.cell? ⟨b, 0, none⟩ = some a0 ∧ W.cell? ⟨b, 1, none⟩ = some a1 ∧ W.cell? ⟨b, 2, none⟩ = some a2 ∧ W.cell? ⟨b, 3, none⟩ = some a3 ∧ W.cell? ⟨b, 4, none⟩ = some a4 ∧ W.cell? ⟨b, 5, none⟩ = some a5 ∧ W.cell? ⟨b, 6, none⟩ = some a6 ∧ W.cell? ⟨b, 7, none⟩ = some a7) ∧
    W.frozen? ⟨b, 0, none⟩ = false ∧ W.frozen? ⟨b, 1, none⟩ = false ∧ W.frozen? ⟨b, 2, none⟩ = false ∧ W.frozen? ⟨b, 3, none⟩ = false ∧ W.frozen? ⟨b, 4, none⟩ = false ∧ W.frozen? ⟨b, 5, none⟩ = false ∧ W.frozen? ⟨b, 6, none⟩ = false ∧ W.frozen? ⟨b, 7, none⟩ = false := by
  refine ⟨⟨?_, ?_, ?_, ?_, ?_, ?_, ?_, ?_⟩, ?_, ?_, ?_, ?_, ?_, ?_, ?_, ?_⟩ <;> simp [World.cell?, World.frozen?, h]
theorem stored8 {W : World} {b : Nat} {a0 a1 a2 a3 a4 a5 a6 a7 : Value} {T : TypeId} (h : W.heap[b]? = some (.cells #[a0, a1, a2, a3, a4, a5, a6, a7] T)) (k0 k1 k2 k3 k4 k5 k6 k7 : Value) :
    ((((((((W.setCell ⟨b, 0, none⟩ k0).setCell ⟨b, 1, none⟩ k1).setCell ⟨b, 2, none⟩ k2).setCell ⟨b, 3, none⟩ k3).setCell ⟨b, 4, none⟩ k4).setCell ⟨b, 5, none⟩ k5).setCell ⟨b, 6, none⟩ k6).setCell ⟨b, 7, none⟩ k7).heap[b]? = some (.cells #[k0, k1, k2, k3, k4, k5, k6, k7] T) := by
  simp [World.setCell, Array.getElem?_modify, h]
theorem set8_grown {W : World} {b : Nat} (k0 k1 k2 k3 k4 k5 k6 k7 : Value) :
    W.grownBy ((((((((W.setCell ⟨b, 0, none⟩ k0).setCell ⟨b, 1, none⟩ k1).setCell ⟨b, 2, none⟩ k2).setCell ⟨b, 3, none⟩ k3).setCell ⟨b, 4, none⟩ k4).setCell ⟨b, 5, none⟩ k5).setCell ⟨b, 6, none⟩ k6).setCell ⟨b, 7, none⟩ k7) (some b) :=
  (set7_grown _ _ _ _ _ _ _).trans (grown_set _ _ _ _)

/-- An entry that was read, and whether it was one. -/
def RetEnt (w : World) (r : Option Ent) (e : Ending) (W : World) : Prop :=
  ∃ (x : Ent) (A : Option Addr) (n c : Nat), e = .returned (.tuple #[entV x (.slice A n c), .bool r.isSome]) ∧ (∀ y, r = some y → x = y ∧ OpsAt (fun k => w.heap.size ≤ k ∧ k < W.heap.size) W (.slice A n c) x.ops) ∧ Below w.heap.size w W

theorem read_nil (v : Value) (w : World) (hI : Old w.heap.size w v []) : Calls Try.prog 25 #[v] w (RetEnt w (rdE [])) := by
  obtain ⟨A, cap, rfl, _⟩ := hI.form
  clear hI
  simp only [List.length_nil]
  have hbox : (w.alloc Z8).heap[w.heap.size]? = some Z8 := heap_alloc_new w _
  have hB : Below w.heap.size w (w.alloc Z8) := (Below.refl _ _).alloc (Nat.le_refl _) _
  have HBX := Lib.hid hbox
  have HB := Lib.hid hB
  clear hbox hB
  go_enter Try.func25, Try.ntmps25
  go_wp2_with fail
  have hbox := HBX.out
  have hB := HB.out
  clear HBX HB
  generalize (w.alloc Z8) = W at hbox hB ⊢
  obtain ⟨⟨p0, p1, p2, p3, p4, p5, p6, p7⟩, _⟩ := box8 hbox
  exact bodyPost_ret (v := .tuple #[.agg #[.int .i64 0, .int .i64 0, .int .i64 0, .int .i64 0, .string ⟨#[]⟩, .int .u32 0, .slice none 0 0, .int .i64 0], .bool true]) (by simp [results, Try.results25, go_sem, p0, p1, p2, p3, p4, p5, p6, p7]) rfl
    ⟨zeroE, none, 0, 0, rfl, (fun y h => by obtain rfl := Option.some.inj h; exact ⟨rfl, OpsAt.nil _ _⟩), hB⟩

theorem Items.tail {S : Nat → Prop} {W : World} {b off n cap : Nat} {x : Item} {f : List Item} (h : Items S W (.slice (some ⟨b, off, none⟩) (n + 1) cap) (x :: f)) : Items S W (.slice (some ⟨b, off + 4, none⟩) n (cap - 1)) f := by
  have hl := h.length
  obtain ⟨b', off', e, hS, hc⟩ := h.at (by omega)
  simp only [Option.some.injEq, Addr.mk.injEq, and_true] at e
  obtain ⟨rfl, rfl⟩ := e
  obtain ⟨U, hU⟩ := Classical.axiomOfChoice (r := fun (j : Nat) (u : Value) => ∀ y, f[j]? = some y → Cells4 W b (off + (j + 1) * 4) y u ∧ Items S W u y.kids) (fun j => by
    match hq : f[j]? with
    | none => exact ⟨.slice none 0 0, fun y hy => by cases hy⟩
    | some y =>
      obtain ⟨u, h1, h2⟩ := hc (j + 1) y (by simpa using hq)
      exact ⟨u, fun y' hy' => by obtain rfl := Option.some.inj hy'; exact ⟨h1, h2⟩⟩)
  refine .row b (off + 4) n (cap - 1) f U (by have := hl.1; simpa using this) (by omega) (fun _ => hS) (fun j y hy => ?_) (fun j y hy => (hU j y hy).2)
  have := (hU j y hy).1
  rwa [show off + (j + 1) * 4 = off + 4 + j * 4 by omega] at this

end Go.Proofs.Ytffehnojcajhiaa.Wire.Entry
