/-
  Put together out of texts of one chain: what they hold stands ahead of each.
-/
import Derived.Test.YtnjjjalenhbicaaGDiskStands27
/-
  Rows of the document's disk's changes; the whole of it; what its calls leave as it was.
-/
namespace Go.Proofs.Ytnjjjalenhbicaa.Disk
open Go Go.RowKit Go.Sort Go.Lib Go.Proofs.Ytnjjjalenhbicaa.Law

/-- A change of the document's disk. -/
structure RChg where
  kind : Nat
  name : ByteArray
  pos : Nat
  data : List Nat
abbrev RC := RChg × Value
def flatRC : List RC → List Value
  | [] => []
  | p :: r => .int .i64 (p.1.kind : Nat) :: .string p.1.name :: .int .i64 (p.1.pos : Nat) :: p.2 :: flatRC r
theorem flatRC_length : ∀ l : List RC, (flatRC l).length = l.length * 4
  | [] => rfl
  | p :: r => by simp only [flatRC, List.length_cons, flatRC_length r]; omega
theorem flatRC_append : ∀ a b : List RC, flatRC (a ++ b) = flatRC a ++ flatRC b
  | [], b => by simp [flatRC]
  | x :: a, b => by simp only [List.cons_append, flatRC, flatRC_append a b]
theorem flatRC_one : ∀ l : List RC, (∀ p ∈ l, p.2.oneCell' = true) → ∀ u ∈ flatRC l, u.oneCell' = true
  | [], _, u, h => by simp [flatRC] at h
  | p :: r, hl, u, h => by
    simp only [flatRC, List.mem_cons] at h
    rcases h with rfl | rfl | rfl | rfl | h
    · rfl
    · rfl
    · rfl
    · exact hl p (by simp)
    · exact flatRC_one r (fun q hq => hl q (by simp [hq])) u h
theorem info_rc : (Try.prog.info? 97).map (fun i => (i.zero, i.size, i.bytes)) = some (some (.agg #[.int .i64 0, .string ⟨#[]⟩, .int .i64 0, .slice none 0 0]), 4, 56) := by kernel_rfl

/-- A row of changes. -/
def ChsAt (W : World) (base : Nat) (v : Value) (l : List RC) : Prop := W.ownsRow base 97 4 v l.length (flatRC l) ∧ ∀ p ∈ l, Buf W base 5 p.2 p.1.data
/-- The types of the blocks that the document's disk's calls write. -/
def isRefD (t : TypeId) : Bool := t == 32 || t == 97
def isRC (t : TypeId) : Bool := t == 97
theorem isRC_more (t : TypeId) (h : isRefD t = false) : isRC t = false := by
  unfold isRefD at h
  simp only [Bool.or_eq_false_iff] at h
  exact h.2

theorem buf_frm {S : TypeId → Bool} {B base : Nat} {W W' : World} {v : Value} {xs : List Nat} (h : Buf W base 5 v xs) (hF : Frm S B W W') (hS : S 5 = false) : Buf W' base 5 v xs :=
  h.keep fun g hg => by
    rcases h.2 with ⟨rfl, _⟩ | ⟨g', cap, cur, rfl, _, h2, _⟩
    · cases hg
    · simp only [Value.ownBlock, Option.some.injEq] at hg
      subst hg
      exact (hF.2 g' _ _ _ h2 hS).trans h2.symm
theorem FilesAt.frm {S : TypeId → Bool} {B base : Nat} {W W' : World} {v : Value} {ps : List RF} (h : FilesAt W base v ps) (hF : Frm S B W W') (h1 : S 71 = false) (h2 : S 5 = false) : FilesAt W' base v ps :=
  ⟨row_frm h.1 hF h1, fun p hp => buf_frm (h.2 p hp) hF h2⟩
theorem ChsAt.frm {S : TypeId → Bool} {B base : Nat} {W W' : World} {v : Value} {l : List RC} (h : ChsAt W base v l) (hF : Frm S B W W') (h1 : S 97 = false) (h2 : S 5 = false) : ChsAt W' base v l :=
  ⟨row_frm h.1 hF h1, fun p hp => buf_frm (h.2 p hp) hF h2⟩
theorem ChsAt.nil (W : World) (base : Nat) : ChsAt W base (.slice none 0 0) [] := ⟨⟨rfl, .inl ⟨rfl, rfl⟩⟩, by simp⟩
theorem ChsAt.form {W : World} {base : Nat} {v : Value} {l : List RC} (h : ChsAt W base v l) : ∃ A c, v = .slice A l.length c := row_form h.1
theorem ChsAt.below {W W' : World} {base : Nat} {v : Value} {l : List RC} (h : ChsAt W base v l) (hB : Below W.heap.size W W') : ChsAt W' base v l :=
  h.frm (S := fun _ => false) (Frm.of_below hB (Nat.le_refl _)) rfl rfl

/-- A change is put behind a row's. -/
theorem ChsAt.append {W : World} {base : Nat} {v : Value} {l : List RC} (h : ChsAt W base v l) (hbase : base ≤ W.heap.size) (ty : TypeId) (b : Nat) (x : RC)
    (hm : W.heap[b]? = some (.cells #[.int .i64 (x.1.kind : Nat), .string x.1.name, .int .i64 (x.1.pos : Nat), x.2] 97 (0, 0))) (hO : Buf W base 5 x.2 x.1.data) (hroom : l.length ≤ 1000000000) :
    ∃ A' c' W', (Builtin.append_ #[30, 30] ty #[v, .slice (some ⟨b, 0, none⟩) 1 1]).run Try.prog W = .ok (.slice A' (l.length + 1) c') W' ∧ ChsAt W' base (.slice A' (l.length + 1) c') (l ++ [x]) ∧ Frm isRC base W W' ∧
      W.grownBy W' v.ownBlock ∧ ((Value.slice A' (l.length + 1) c').ownBlock = v.ownBlock ∨ (Value.slice A' (l.length + 1) c').ownBlock = some W.heap.size) := by
  obtain ⟨i0, hi, hz0, hz1, hz2⟩ := info_parts info_rc
  have hones : ∀ p ∈ l, p.2.oneCell' = true := fun p hp => by
    obtain ⟨A, c, hv, _⟩ := (h.2 p hp).form
    rw [hv]; rfl
  have hone : x.2.oneCell' = true := by
    obtain ⟨A, c, hv, _⟩ := hO.form
    rw [hv]; rfl
  obtain ⟨v', W', hrun, h3, h4, _, h5⟩ := run_append_own_at (P := Try.prog) W base 30 ty 97 i0 _ 4 56 Try.underlying30 hi hz0 hz1 hz2 rfl (by decide) v l.length (flatRC l) h.1 ⟨b, 0, none⟩ 1 1 (flatRC [x]) rfl
    (fun j w hw => by
      rw [Addr.add_lit]
      match j, hw with
      | 0, hw => simp [flatRC] at hw; subst hw; simp [World.cell?, hm]
      | 1, hw => simp [flatRC] at hw; subst hw; simp [World.cell?, hm]
      | 2, hw => simp [flatRC] at hw; subst hw; simp [World.cell?, hm]
      | 3, hw => simp [flatRC] at hw; subst hw; simp [World.cell?, hm]
      | j + 4, hw => simp [flatRC] at hw) (flatRC_one _ (by simpa using hone)) (by simp only [maxLen]; omega) (by omega) hbase
  obtain ⟨A', c', rfl⟩ := row_form h3
  have hF : Frm isRC base W W' := (Frm.refl isRC base W).grown_row h4 h.1 (by decide) (Nat.le_refl _) hbase
  refine ⟨A', c', W', hrun, ⟨by rw [List.length_append, flatRC_append]; exact h3, fun p hp => ?_⟩, hF, h4, h5⟩
  rcases List.mem_append.1 hp with hp | hp
  · exact buf_frm (h.2 p hp) hF (by decide)
  · simp only [List.mem_singleton] at hp
    subst hp
    exact buf_frm hO hF (by decide)

/-- The document's disk. -/
def RefD (W : World) (base q : Nat) (room : Int) (fails : Bool) (now safe : List RF) (chs : List RC) : Prop :=
  base ≤ q ∧ ∃ nv sv cv, RD W q room fails nv sv cv ∧ FilesAt W base nv now ∧ FilesAt W base sv safe ∧ ChsAt W base cv chs
theorem RefD.below {W W' : World} {base q : Nat} {room : Int} {fails : Bool} {now safe : List RF} {chs : List RC} (h : RefD W base q room fails now safe chs) (hB : Below W.heap.size W W') : RefD W' base q room fails now safe chs := by
  obtain ⟨hb, nv, sv, cv, h1, h2, h3, h4⟩ := h
  exact ⟨hb, nv, sv, cv, h1.below hB, h2.below hB, h3.below hB, h4.below hB⟩
/-- It is kept by whatever writes blocks of other types. -/
theorem RefD.frm {S : TypeId → Bool} {B : Nat} {W W' : World} {base q : Nat} {room : Int} {fails : Bool} {now safe : List RF} {chs : List RC} (h : RefD W base q room fails now safe chs) (hF : Frm S B W W') (h1 : S 32 = false) (h2 : S 71 = false) (h3 : S 97 = false) (h4 : S 5 = false) : RefD W' base q room fails now safe chs := by
  obtain ⟨hb, nv, sv, cv, e1, e2, e3, e4⟩ := h
  exact ⟨hb, nv, sv, cv, hF.2 q _ _ _ e1 h1, e2.frm hF h2 h4, e3.frm hF h2 h4, e4.frm hF h3 h4⟩

theorem rd_frm {S : TypeId → Bool} {B : Nat} {W W' : World} {q : Nat} {room : Int} {fails : Bool} {nv sv cv : Value} (h : RD W q room fails nv sv cv) (hF : Frm S B W W') (h1 : S 32 = false) : RD W' q room fails nv sv cv := hF.2 q _ _ _ h h1
theorem rd_set (W : World) {base q : Nat} {room : Int} {fails : Bool} {nv sv cv : Value} (h : RD W q room fails nv sv cv) (hb : base ≤ q) (hs : base ≤ W.heap.size) (i : Nat) (v : Value) : Frm isRefD base W (W.setCell ⟨q, i, none⟩ v) := (Frm.refl isRefD base W).set h (by decide) hb hs v
theorem rd_set2 {W : World} {q : Nat} {room : Int} {fails : Bool} {nv sv cv : Value} (h : RD W q room fails nv sv cv) (v : Value) : RD (W.setCell ⟨q, 2, none⟩ v) q room fails v sv cv := by
  have := heap_set h 2 v
  exact this.trans (by simp)
theorem rd_set3 {W : World} {q : Nat} {room : Int} {fails : Bool} {nv sv cv : Value} (h : RD W q room fails nv sv cv) (v : Value) : RD (W.setCell ⟨q, 3, none⟩ v) q room fails nv v cv := by
  have := heap_set h 3 v
  exact this.trans (by simp)
theorem rd_set4 {W : World} {q : Nat} {room : Int} {fails : Bool} {nv sv cv : Value} (h : RD W q room fails nv sv cv) (v : Value) : RD (W.setCell ⟨q, 4, none⟩ v) q room fails nv sv v := by
  have := heap_set h 4 v
  exact this.trans (by simp)
theorem rd_set1 {W : World} {q : Nat} {room : Int} {fails : Bool} {nv sv cv : Value} (h : RD W q room fails nv sv cv) (b : Bool) : RD (W.setCell ⟨q, 1, none⟩ (.bool b)) q room b nv sv cv := by
  have := heap_set h 1 (.bool b)
  exact this.trans (by simp)
theorem rd_set0 {W : World} {q : Nat} {room : Int} {fails : Bool} {nv sv cv : Value} (h : RD W q room fails nv sv cv) (z : Int) : RD (W.setCell ⟨q, 0, none⟩ (.int .i64 z)) q z fails nv sv cv := by
  have := heap_set h 0 (.int .i64 z)
  exact this.trans (by simp)
theorem files_set {W : World} {base q : Nat} {room : Int} {fails : Bool} {nv sv cv v u : Value} {ps : List RF} (h : FilesAt W base v ps) (hq : RD W q room fails nv sv cv) (i : Nat) : FilesAt (W.setCell ⟨q, i, none⟩ u) base v ps :=
  h.frm (S := fun t => t == 32) ((Frm.refl _ 0 W).set hq (by decide) (Nat.zero_le _) (Nat.zero_le _) u) (by decide) (by decide)
theorem chs_set {W : World} {base q : Nat} {room : Int} {fails : Bool} {nv sv cv v u : Value} {l : List RC} (h : ChsAt W base v l) (hq : RD W q room fails nv sv cv) (i : Nat) : ChsAt (W.setCell ⟨q, i, none⟩ u) base v l :=
  h.frm (S := fun t => t == 32) ((Frm.refl _ 0 W).set hq (by decide) (Nat.zero_le _) (Nat.zero_le _) u) (by decide) (by decide)

/-- What a call of the document's disk in block q has done: it wrote that block, and the row of its changes; its rows are such as they were, or new. -/
structure RefK (base q : Nat) (w W : World) : Prop where
  le : base ≤ q
  lt : q < w.heap.size
  low : Below base w W
  same : ∀ k, k < w.heap.size → k ≠ q → (∀ v, w.cell? ⟨q, 4, none⟩ = some v → v.ownBlock ≠ some k) → W.heap[k]? = w.heap[k]?
  own : ∀ i, 2 ≤ i → i ≤ 4 → ∀ v g, W.cell? ⟨q, i, none⟩ = some v → v.ownBlock = some g → (∃ j v0, 2 ≤ j ∧ j ≤ 4 ∧ (i = 4 ↔ j = 4) ∧ w.cell? ⟨q, j, none⟩ = some v0 ∧ v0.ownBlock = some g) ∨ w.heap.size ≤ g
theorem RefK.refl {base q : Nat} {w : World} (hb : base ≤ q) (hq : q < w.heap.size) : RefK base q w w :=
  ⟨hb, hq, Below.refl _ _, fun _ _ _ _ => rfl, fun i h2 h4 v _ hv hg => .inl ⟨i, v, h2, h4, Iff.rfl, hv, hg⟩⟩
theorem RefK.then_below {base q : Nat} {w W W' : World} (h : RefK base q w W) (hB : Below W.heap.size W W') : RefK base q w W' := by
  have hs := h.low.size
  have hl := h.lt
  refine ⟨h.le, h.lt, h.low.trans (hB.mono (by have := h.le; omega)), fun k hk hkq hc => (hB.block k (by omega)).trans (h.same k hk hkq hc), fun i h2 h4 v g hv hg => h.own i h2 h4 v g ?_ hg⟩
  rw [← hv]
  exact (hB.cell (p := ⟨q, i, none⟩) (by show q < W.heap.size; omega)).symm
theorem RefK.of_below {base q : Nat} {w W : World} (hb : base ≤ q) (hq : q < w.heap.size) (hB : Below w.heap.size w W) : RefK base q w W := (RefK.refl hb hq).then_below hB
theorem RefK.trans {base q : Nat} {a b c : World} (h : RefK base q a b) (k : RefK base q b c) : RefK base q a c := by
  have hs := h.low.size
  refine ⟨h.le, h.lt, h.low.trans k.low, fun j hj hjq hc => (k.same j (by omega) hjq fun v hv hg => ?_).trans (h.same j hj hjq hc), fun i h2 h4 v g hv hg => ?_⟩
  · rcases h.own 4 (by omega) (by omega) v j hv hg with ⟨j', v0, _, _, hiff, h5, h6⟩ | h5
    · obtain rfl := hiff.1 rfl
      exact hc v0 h5 h6
    · omega
  · rcases k.own i h2 h4 v g hv hg with ⟨j, v0, h5, h6, h7, h8, h9⟩ | h5
    · rcases h.own j h5 h6 v0 g h8 h9 with ⟨j', v1, e5, e6, e7, e8, e9⟩ | e5
      · exact .inl ⟨j', v1, e5, e6, h7.trans e7, e8, e9⟩
      · exact .inr e5
    · exact .inr (by omega)
/-- A field of the block is set. -/
theorem RefK.put {base q : Nat} {w W : World} {room : Int} {fails : Bool} {nv sv cv : Value} (h : RefK base q w W) (hq : RD W q room fails nv sv cv) (i : Nat) (v : Value)
    (hv : ∀ g, v.ownBlock = some g → (∃ j v0, 2 ≤ j ∧ j ≤ 4 ∧ (i = 4 ↔ j = 4) ∧ w.cell? ⟨q, j, none⟩ = some v0 ∧ v0.ownBlock = some g) ∨ w.heap.size ≤ g) : RefK base q w (W.setCell ⟨q, i, none⟩ v) := by
  have hs := h.low.size
  have hl := h.lt
  refine ⟨h.le, h.lt, h.low.trans (rd_set W hq h.le (by have := h.le; omega) i v).low, fun k hk hkq hc => (Below.heap_setCell _ _ _ k (by exact hkq)).trans (h.same k hk hkq hc), fun j h2 h4 u g hu hg => ?_⟩
  have hset := heap_set hq i v
  by_cases hij : i = j
  · subst hij
    have : u = v := by
      simp only [World.cell?, hset] at hu
      rw [Array.getElem?_setIfInBounds_self_of_lt (by simp; omega)] at hu
      exact (Option.some.inj hu).symm
    subst this
    exact hv g hg
  · refine h.own j h2 h4 u g ?_ hg
    simp only [World.cell?, hset] at hu
    rw [Array.getElem?_setIfInBounds_ne hij] at hu
    have hq' : W.heap[q]? = _ := hq
    simp only [World.cell?, hq']
    exact hu
/-- The row of changes grows where it lies. -/
theorem RefK.grown {base q : Nat} {w W W' : World} {cv : Value} (h : RefK base q w W) (hc : W.cell? ⟨q, 4, none⟩ = some cv) (hg : W.grownBy W' cv.ownBlock) (hne : cv.ownBlock ≠ some q) (hB : Below base W W') : RefK base q w W' := by
  have hs := h.low.size
  have hl := h.lt
  have hqs : W'.heap[q]? = W.heap[q]? := hg.block q (by omega) (fun e => hne e.symm)
  refine ⟨h.le, h.lt, h.low.trans hB, fun k hk hkq hn => (hg.block k (by omega) fun e => ?_).trans (h.same k hk hkq hn), fun i h2 h4 v g hv hgg => h.own i h2 h4 v g ?_ hgg⟩
  · rcases h.own 4 (by omega) (by omega) cv k hc e.symm with ⟨j, v0, _, _, hiff, h5, h6⟩ | h5
    · obtain rfl := hiff.1 rfl
      exact hn v0 h5 h6
    · omega
  · rw [← hv]
    simp only [World.cell?, hqs]

/-- A change is put behind the disk's, and its field set. -/
theorem ref_push {w0 W : World} {base q : Nat} {room : Int} {fails : Bool} {nv sv cv : Value} {now safe : List RF} {chs : List RC} (hb : base ≤ q) (h : RD W q room fails nv sv cv) (hN : FilesAt W base nv now) (hS : FilesAt W base sv safe) (hC : ChsAt W base cv chs) (hbase : base ≤ W.heap.size) (ty : TypeId) (b : Nat) (x : RC)
    (hm : W.heap[b]? = some (.cells #[.int .i64 (x.1.kind : Nat), .string x.1.name, .int .i64 (x.1.pos : Nat), x.2] 97 (0, 0))) (hO : Buf W base 5 x.2 x.1.data) (hroom : chs.length ≤ 1000000000) (hK : RefK base q w0 W) :
    ∃ A' c' W', (Builtin.append_ #[30, 30] ty #[cv, .slice (some ⟨b, 0, none⟩) 1 1]).run Try.prog W = .ok (.slice A' (chs.length + 1) c') W' ∧ RD W' q room fails nv sv cv ∧
      RefD (W'.setCell ⟨q, 4, none⟩ (.slice A' (chs.length + 1) c')) base q room fails now safe (chs ++ [x]) ∧ RefK base q w0 (W'.setCell ⟨q, 4, none⟩ (.slice A' (chs.length + 1) c')) := by
  obtain ⟨A', c', W', hrun, hC', hF, hgr, hown⟩ := hC.append hbase ty b x hm hO hroom
  have hq : RD W' q room fails nv sv cv := rd_frm h hF (by decide)
  have hne : cv.ownBlock ≠ some q := fun e => by
    rcases hC.1.2 with ⟨rfl, _⟩ | ⟨g, cap, cur, rfl, _, hg, _⟩
    · cases e
    · simp only [Value.ownBlock, Option.some.injEq] at e
      subst e
      have h1 : W.heap[g]? = _ := h
      rw [h1] at hg
      simp only [Option.some.injEq, Obj.cells.injEq] at hg
      exact absurd hg.2.1 (by decide)
  have hc4 := h.cells.1.2.2.2.2
  have hK2 : RefK base q w0 W' := hK.grown hc4 hgr hne hF.low
  have hset : RefK base q w0 (W'.setCell ⟨q, 4, none⟩ (.slice A' (chs.length + 1) c')) := hK2.put hq 4 _ fun g hg => by
    rcases hown with e | e
    · rw [e] at hg
      rcases hK.own 4 (by omega) (by omega) cv g hc4 hg with ⟨j, v0, h2, h4, hiff, h5, h6⟩ | h5
      · exact .inl ⟨j, v0, h2, h4, hiff, h5, h6⟩
      · exact .inr h5
    · rw [e] at hg
      have := Option.some.inj hg
      have := hK.low.size
      exact .inr (by omega)
  exact ⟨A', c', W', hrun, hq, ⟨hb, nv, sv, _, rd_set4 hq _, files_set (hN.frm hF (by decide) (by decide)) hq 4, files_set (hS.frm hF (by decide) (by decide)) hq 4, by
    have := chs_set (u := .slice A' (chs.length + 1) c') hC' hq 4
    exact this⟩, hset⟩

end Go.Proofs.Ytnjjjalenhbicaa.Disk
