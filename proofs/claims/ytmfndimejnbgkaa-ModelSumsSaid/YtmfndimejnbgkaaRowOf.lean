/-
  A slice value that reads as a list, one cell an element; rows of the call's own of such elements: append, store, read. Of whatever program.
-/
import Derived.Test.YtmfndimejnbgkaaLaw
import Derived.Test.YtmfndimejnbgkaaOps
import Derived.BigQuiet
namespace Go.Proofs.Ytmfndimejnbgkaa.Law
open Go Go.ChangeShapes Go.WideShapes Go.ChangeAt Go.RowKit

section
variable {α : Type} {f : α → Value}

/-- The slice value reads as this list, one cell f an element; its block is in S. -/
def RowAt (f : α → Value) (S : Nat → Prop) (W : World) (v : Value) (l : List α) : Prop :=
  ∃ A cap, v = .slice A l.length cap ∧ l.length ≤ cap ∧ (A = none → cap = 0) ∧ (0 < l.length → ∃ b off, A = some ⟨b, off, none⟩ ∧ S b ∧ ∀ j x, l[j]? = some x → W.cell? ⟨b, off + j, none⟩ = some (f x))
theorem RowAt.nil (S : Nat → Prop) (W : World) : RowAt f S W (.slice none 0 0) [] := ⟨none, 0, rfl, Nat.le_refl _, fun _ => rfl, fun h => absurd h (Nat.lt_irrefl _)⟩
theorem RowAt.form {S : Nat → Prop} {W : World} {v : Value} {l : List α} (h : RowAt f S W v l) : ∃ A cap, v = .slice A l.length cap ∧ l.length ≤ cap := by
  obtain ⟨A, cap, h1, h2, _⟩ := h; exact ⟨A, cap, h1, h2⟩
theorem RowAt.at {S : Nat → Prop} {W : World} {A : Option Addr} {len cap : Nat} {l : List α} (h : RowAt f S W (.slice A len cap) l) (hp : 0 < len) :
    ∃ b off, A = some ⟨b, off, none⟩ ∧ S b ∧ ∀ j x, l[j]? = some x → W.cell? ⟨b, off + j, none⟩ = some (f x) := by
  obtain ⟨A', cap', h1, _, _, h4⟩ := h
  simp only [Value.slice.injEq] at h1
  obtain ⟨rfl, rfl, rfl⟩ := h1
  exact h4 hp
theorem RowAt.keep {S T : Nat → Prop} {W W' : World} (hb : ∀ b, S b → W'.heap[b]? = W.heap[b]?) (hST : ∀ b, S b → T b) {v : Value} {l : List α} (h : RowAt f S W v l) : RowAt f T W' v l := by
  obtain ⟨A, cap, h1, h2, h3, h4⟩ := h
  refine ⟨A, cap, h1, h2, h3, fun hp => ?_⟩
  obtain ⟨b, off, e, hS, hc⟩ := h4 hp
  exact ⟨b, off, e, hST b hS, fun j x hx => by simp only [World.cell?, hb b hS]; exact hc j x hx⟩
theorem RowAt.mono {S T : Nat → Prop} {W : World} (hST : ∀ b, S b → T b) {v : Value} {l : List α} (h : RowAt f S W v l) : RowAt f T W v l := h.keep (fun _ _ => rfl) hST
/-- .. in old blocks. -/
abbrev OldR (f : α → Value) (n : Nat) (W : World) (v : Value) (l : List α) : Prop := RowAt f (fun b => b < n) W v l
theorem RowAt.low {n : Nat} {A B : World} (h : Below n A B) {v : Value} {l : List α} (hI : OldR f n A v l) : OldR f n B v l := hI.keep (fun b hb => h.block b hb) (fun _ h => h)
theorem RowAt.on {A B : World} (h : Below A.heap.size A B) {v : Value} {l : List α} (hI : OldR f A.heap.size A v l) : OldR f B.heap.size B v l := (RowAt.low h hI).mono (fun _ hb => Nat.lt_of_lt_of_le hb h.size)
/-- A piece from the front. -/
theorem RowAt.front {S : Nat → Prop} {W : World} {A : Option Addr} {len cap : Nat} {l : List α} (h : RowAt f S W (.slice A len cap) l) (k c : Nat) (hk : k ≤ len) (hc : k ≤ c) (hA : A = none → c = 0) : RowAt f S W (.slice A k c) (l.take k) := by
  obtain ⟨A', cap', e, h1, h2, h4⟩ := h
  simp only [Value.slice.injEq] at e
  obtain ⟨rfl, rfl, rfl⟩ := e
  have hl : (l.take k).length = k := by rw [List.length_take]; omega
  refine ⟨A, c, by rw [hl], by omega, hA, fun hp => ?_⟩
  obtain ⟨b, off, e1, h5, h6⟩ := h4 (by omega)
  refine ⟨b, off, e1, h5, fun j x hx => h6 j x ?_⟩
  rw [List.getElem?_take] at hx
  split at hx
  · exact hx
  · cases hx
/-- A piece from a place on. -/
theorem RowAt.back {S : Nat → Prop} {W : World} {b o len cap : Nat} {l : List α} (h : RowAt f S W (.slice (some ⟨b, o, none⟩) len cap) l) (k c : Nat) (hk : k < len) (hc : len - k ≤ c) : RowAt f S W (.slice (some ⟨b, o + k, none⟩) (len - k) c) (l.drop k) := by
  obtain ⟨A', cap', e, h1, h2, h4⟩ := h
  simp only [Value.slice.injEq] at e
  obtain ⟨rfl, rfl, rfl⟩ := e
  have hl : (l.drop k).length = l.length - k := by rw [List.length_drop]
  refine ⟨_, c, by rw [hl], by omega, (fun h => by cases h), fun hp => ?_⟩
  obtain ⟨b', off, e1, h5, h6⟩ := h4 (by omega)
  simp only [Option.some.injEq, Addr.mk.injEq, and_true] at e1
  obtain ⟨rfl, rfl⟩ := e1
  refine ⟨b, o + k, rfl, h5, fun j x hx => ?_⟩
  rw [List.getElem?_drop] at hx
  rw [Nat.add_assoc]
  exact h6 _ x hx
theorem RowAt.empty (S : Nat → Prop) (W : World) (A : Option Addr) (c : Nat) (hA : A = none → c = 0) : RowAt f S W (.slice A 0 c) [] := ⟨A, c, rfl, Nat.zero_le _, hA, fun h => absurd h (Nat.lt_irrefl _)⟩

/-- A row of the call's own. -/
def OwnRow (f : α → Value) (e : TypeId) (W : World) (base : Nat) (v : Value) (l : List α) : Prop := W.ownsRow base e 1 v l.length (l.map f)
theorem OwnRow.nil (e : TypeId) (W : World) (base : Nat) : OwnRow f e W base (.slice none 0 0) [] := World.ownsRow_nil W base e 1
theorem OwnRow.form {e : TypeId} {W : World} {base : Nat} {v : Value} {l : List α} (h : OwnRow f e W base v l) : ∃ A cap, v = .slice A l.length cap ∧ l.length ≤ cap := by
  rcases h.2 with ⟨rfl, hz⟩ | ⟨g, cap, cur, rfl, _, _, hn, _⟩
  · exact ⟨none, 0, by rw [hz], by omega⟩
  · exact ⟨_, cap, rfl, hn⟩
theorem OwnRow.formP {e : TypeId} {W : World} {base : Nat} {v : Value} {l : List α} (h : OwnRow f e W base v l) (hp : 0 < l.length) : ∃ g cap, v = .slice (some ⟨g, 0, none⟩) l.length cap ∧ l.length ≤ cap ∧ base ≤ g ∧ g < W.heap.size := by
  have hlt := h.lt
  rcases h.2 with ⟨rfl, hz⟩ | ⟨g, cap, cur, rfl, hb, _, hn, _⟩
  · omega
  · exact ⟨g, cap, rfl, hn, hb, (hlt g rfl).2⟩
theorem OwnRow.own {e : TypeId} {W : World} {base : Nat} {v : Value} {l : List α} (h : OwnRow f e W base v l) {g : Nat} (hg : v.ownBlock = some g) : base ≤ g ∧ g < W.heap.size := h.lt g hg
theorem OwnRow.keep {e : TypeId} {W W' : World} {base : Nat} {v : Value} {l : List α} (h : OwnRow f e W base v l) (hb : ∀ g, v.ownBlock = some g → W'.heap[g]? = W.heap[g]?) : OwnRow f e W' base v l := by
  refine ⟨h.1, ?_⟩
  rcases h.2 with h0 | ⟨g, cap, cur, rfl, h1, h2, h3⟩
  · exact .inl h0
  · exact .inr ⟨g, cap, cur, rfl, h1, (hb g rfl).trans h2, h3⟩
theorem OwnRow.below {e : TypeId} {W W' : World} {base : Nat} {v : Value} {l : List α} (h : OwnRow f e W base v l) (hB : Below W.heap.size W W') : OwnRow f e W' base v l := h.keep fun _ hg => hB.block _ (h.own hg).2
theorem OwnRow.drewN {e : TypeId} {W : World} {base : Nat} {v : Value} {l : List α} (h : OwnRow f e W base v l) (n : Nat) : OwnRow f e (W.drewN n) base v l := h.keep fun _ _ => rfl
theorem OwnRow.row {e : TypeId} {W : World} {base : Nat} {v : Value} {l : List α} (h : OwnRow f e W base v l) : RowAt f (fun k => base ≤ k ∧ k < W.heap.size) W v l := by
  have hlt := fun (g : Nat) (hg : v.ownBlock = some g) => h.own hg
  have hcell := fun (g : Nat) (hg : v.ownBlock = some g) => World.ownsRow.cells h hg
  rcases h.2 with ⟨rfl, hz⟩ | ⟨g, cap, cur, rfl, _, _, hn, _⟩
  · exact ⟨none, 0, by rw [hz], by omega, fun _ => rfl, fun hp => absurd hp (by omega)⟩
  · refine ⟨_, cap, rfl, hn, (fun h => by cases h), fun _ => ⟨g, 0, rfl, hlt g rfl, fun j x hx => ?_⟩⟩
    have := hcell g rfl j (f x) (by rw [List.getElem?_map, hx]; rfl)
    rw [Addr.add_lit] at this
    exact this
theorem OwnRow.old {e : TypeId} {W : World} {base : Nat} {v : Value} {l : List α} (h : OwnRow f e W base v l) : OldR f W.heap.size W v l := h.row.mono fun _ hk => hk.2
theorem OwnRow.cell {e : TypeId} {W : World} {base g len cap : Nat} {l : List α} (h : OwnRow f e W base (.slice (some ⟨g, 0, none⟩) len cap) l) {j : Nat} {x : α} (hx : l[j]? = some x) :
    W.cell? ⟨g, j, none⟩ = some (f x) ∧ W.frozen? ⟨g, j, none⟩ = false := by
  have h0 := h.row
  obtain ⟨A, c, e1, _, _, _⟩ := h0
  simp only [Value.slice.injEq] at e1
  obtain ⟨rfl, rfl, rfl⟩ := e1
  have hj : j < l.length := (List.getElem?_eq_some_iff.1 hx).1
  exact ⟨by rw [World.ownsRow.cellAt h j (by omega), List.getElem?_map, hx]; rfl, World.ownsRow.frozenAt h j⟩
theorem OwnRow.store {e : TypeId} {W : World} {base g len cap : Nat} {l : List α} (h : OwnRow f e W base (.slice (some ⟨g, 0, none⟩) len cap) l) (j : Nat) (x : α) :
    OwnRow f e (W.setCell ⟨g, j, none⟩ (f x)) base (.slice (some ⟨g, 0, none⟩) len cap) (l.set j x) ∧ W.grownBy (W.setCell ⟨g, j, none⟩ (f x)) (some g) := by
  obtain ⟨A, c, e1, _⟩ := h.row
  simp only [Value.slice.injEq] at e1
  obtain ⟨rfl, rfl, rfl⟩ := e1
  have := World.ownsRow.stored h j (f x)
  refine ⟨?_, this.2⟩
  unfold OwnRow
  rw [List.length_set, List.map_set]
  exact this.1
theorem OwnRow.lit (e : TypeId) (w : World) (base : Nat) (cs : Array Value) (l : List α) (n : Nat) (hb : base ≤ w.heap.size) (hn : l.length = n) (hm : n ≤ maxLen) (hcs : cs.toList = l.map f) :
    OwnRow f e (w.alloc (.cells cs e)) base (.slice (some ⟨w.heap.size, 0, none⟩) n n) l := by
  subst hn
  have h1 := World.ownsRow_lit (base := base) (size := 1) (e := e) w cs l.length hb hm (by have := congrArg List.length hcs; simpa using this)
  rw [hcs] at h1
  exact h1

/-- append onto a row of the call's own, whatever slice comes behind. -/
theorem run_append_row {P : Program} (w : World) {t e : TypeId} (ty : TypeId) {i : TypeInfo} {z : Value} {by_ : Nat} (h1 : ∀ x, (f x).oneCell' = true) (ht : P.underlying t = some (.slice e)) (hi : P.info? e = some i) (hz : i.zero = some z)
    (hsize : i.size = 1) (hby : i.bytes = by_) (hzs : z.cells.size = 1) {base : Nat} {S : Nat → Prop} {v sv : Value} {xs ys : List α} (hown : OwnRow f e w base v xs) (hI : RowAt f S w sv ys)
    (hm : xs.length + ys.length ≤ maxLen) (hroom : (xs.length + ys.length) * by_ ≤ 140737488355328) (hbase : base ≤ w.heap.size) :
    ∃ v' w', (Builtin.append_ #[t, t] ty #[v, sv]).run P w = .ok v' w' ∧ OwnRow f e w' base v' (xs ++ ys) ∧ w.grownBy w' v.ownBlock ∧ (v'.ownBlock = v.ownBlock ∨ v'.ownBlock = some w.heap.size) := by
  obtain ⟨A, cap, rfl, _, hA, hc⟩ := hI
  cases A with
  | none =>
    have hb0 : ys.length = 0 := by
      rcases Nat.eq_zero_or_pos ys.length with h0 | h0
      · exact h0
      · obtain ⟨b, off, he, _⟩ := hc h0
        cases he
    obtain rfl : ys = [] := List.length_eq_zero_iff.1 hb0
    obtain rfl : cap = 0 := hA rfl
    exact ⟨v, w, run_append_owned_none (P := P) (w := w) base t ty e i 1 ht hi v xs.length (xs.map f) hown, by simpa using hown, ⟨rfl, rfl, rfl, Nat.le_refl _, fun _ _ _ => rfl⟩, .inl rfl⟩
  | some a =>
    have hcells : ∀ j u, (ys.map f)[j]? = some u → w.cell? (a.add j) = some u := by
      intro j u hu
      rw [List.getElem?_map] at hu
      match hy : ys[j]?, hu with
      | some x, hu =>
        obtain rfl : f x = u := by simpa using hu
        have hj : j < ys.length := (List.getElem?_eq_some_iff.1 hy).1
        obtain ⟨b, off, he, _, hcell⟩ := hc (by omega)
        obtain rfl : a = ⟨b, off, none⟩ := by simpa using he
        rw [Addr.add_lit, hcell j x hy]
    have hone : ∀ u ∈ ys.map f, u.oneCell' = true := by
      intro u hu
      obtain ⟨x, _, rfl⟩ := List.mem_map.1 hu
      exact h1 x
    obtain ⟨v', w', hrun, h2, h3, _, h5⟩ := run_append_own_at (P := P) w base t ty e i z 1 by_ ht hi hz hsize hby hzs (by decide) v xs.length (xs.map f) hown a ys.length cap (ys.map f) (by rw [List.length_map, Nat.mul_one]) hcells hone hm hroom hbase
    exact ⟨v', w', hrun, by unfold OwnRow; rw [List.length_append, List.map_append]; exact h2, h3, h5⟩
end

/-- A slice of numbers of one kind that came in. -/
theorem open_nums {H : Type} {enc : TypeId × Value → H} {P : Program} {t e : TypeId} {k : IntKind} {by_ base : Nat} {W : World} {v : Value} {d : DataW H} {ps : List MemPlace} (ht : P.underlying t = some (.slice e)) (he : P.underlying e = some (.int k)) (hc : P.cellsOf e = 1) (hy : P.bytesOf e = by_)
    (hval : Value.okWide P W .any base t v) (h : DataW.Trod enc P W 0 (fun _ => true) true t v d ps) (hw : ((d.weights P t).all (· ≤ reachBytes)) = true) :
    ∃ zs : List Int, OldR (Value.int k) W.heap.size W v zs ∧ zs.length * by_ ≤ 140737488351232 ∧ zs.length ≤ maxLen ∧ ∀ n ∈ zs, (Lit.int k n).wf = true := by
  obtain ⟨a1, len, cap, rfl⟩ := okWide_slice ht hval
  obtain ⟨fuel, hf⟩ := h
  rcases open_ints ht he hc hf with ⟨hcs, hx⟩ | ⟨a, len', cap', zs, hcs, _, hl, hm, hz, hx, hcell, hwz⟩
  · simp [Value.cells] at hcs
    obtain ⟨rfl, rfl, rfl⟩ := hcs
    exact ⟨[], RowAt.nil _ _, by simp, by simp, by simp⟩
  · simp [Value.cells] at hcs
    obtain ⟨rfl, rfl, rfl⟩ := hcs
    simp only [Prod.mk.injEq] at hx
    obtain ⟨rfl, rfl⟩ := hx
    simp only [if_true] at hz
    have hreach : zs.length * by_ ≤ 140737488351232 := by
      unfold DataW.weights at hw
      rw [ht] at hw
      simp only [List.all_cons, Bool.and_eq_true, decide_eq_true_eq, hy, lits, List.length_map, List.length_take, List.length_drop] at hw
      have h0 := hw.1
      unfold reachBytes at h0
      have e1 : min len zs.length + (zs.length - len) = zs.length := by omega
      rw [e1] at h0
      exact h0
    have hlen : (zs.take len).length = len := by simp; omega
    have hle : len * by_ ≤ zs.length * by_ := Nat.mul_le_mul_right _ (by omega)
    refine ⟨zs.take len, ⟨some a, cap, by rw [hlen], by rw [hlen]; exact hl, (fun h => by cases h), fun hp => ?_⟩, by rw [hlen]; omega, by rw [hlen]; omega, fun n hn => hwz n (List.mem_of_mem_take hn)⟩
    rw [hlen] at hp
    obtain ⟨ab, ao, spot⟩ := a
    have hspot : spot = none := by simpa [Addr.add] using World.cell?_spot (hcell 0 (by omega))
    subst hspot
    have h0 := hcell 0 (by omega)
    rw [Addr.add_lit] at h0
    refine ⟨ab, ao, rfl, block_lt_cell h0, fun j x hx => ?_⟩
    rw [List.getElem?_take] at hx
    split at hx
    · rename_i hj
      have hj' := hcell j (by omega)
      rw [Addr.add_lit] at hj'
      rw [hj']
      simp [List.getD, hx]
    · cases hx

/-- .. without a reach. -/
theorem open_nums_any {H : Type} {enc : TypeId × Value → H} {P : Program} {t e : TypeId} {k : IntKind} {base : Nat} {W : World} {v : Value} {d : DataW H} {ps : List MemPlace} (ht : P.underlying t = some (.slice e)) (he : P.underlying e = some (.int k)) (hc : P.cellsOf e = 1)
    (hval : Value.okWide P W .any base t v) (h : DataW.Trod enc P W 0 (fun _ => true) true t v d ps) :
    ∃ zs : List Int, OldR (Value.int k) W.heap.size W v zs ∧ zs.length ≤ maxLen ∧ ∀ n ∈ zs, (Lit.int k n).wf = true := by
  obtain ⟨a1, len, cap, rfl⟩ := okWide_slice ht hval
  obtain ⟨fuel, hf⟩ := h
  rcases open_ints ht he hc hf with ⟨hcs, hx⟩ | ⟨a, len', cap', zs, hcs, _, hl, hm, hz, hx, hcell, hwz⟩
  · simp [Value.cells] at hcs
    obtain ⟨rfl, rfl, rfl⟩ := hcs
    exact ⟨[], RowAt.nil _ _, by simp, by simp⟩
  · simp [Value.cells] at hcs
    obtain ⟨rfl, rfl, rfl⟩ := hcs
    simp only [if_true] at hz
    have hlen : (zs.take len).length = len := by simp; omega
    refine ⟨zs.take len, ⟨some a, cap, by rw [hlen], by rw [hlen]; exact hl, (fun h => by cases h), fun hp => ?_⟩, by rw [hlen]; omega, fun n hn => hwz n (List.mem_of_mem_take hn)⟩
    rw [hlen] at hp
    obtain ⟨ab, ao, spot⟩ := a
    have hspot : spot = none := by simpa [Addr.add] using World.cell?_spot (hcell 0 (by omega))
    subst hspot
    have h0 := hcell 0 (by omega)
    rw [Addr.add_lit] at h0
    refine ⟨ab, ao, rfl, block_lt_cell h0, fun j x hx => ?_⟩
    rw [List.getElem?_take] at hx
    split at hx
    · rename_i hj
      have hj' := hcell j (by omega)
      rw [Addr.add_lit] at hj'
      rw [hj']
      simp [List.getD, hx]
    · cases hx

/-- Numbers of 32 bits, as natural numbers. -/
abbrev u32V : Nat → Value := fun x => Value.int .u32 ((x : Nat) : Int)
theorem rowAt_u32 {S : Nat → Prop} {W : World} {v : Value} {zs : List Int} (h : RowAt (Value.int .u32) S W v zs) (hz : ∀ n ∈ zs, (Lit.int .u32 n).wf = true) :
    RowAt u32V S W v (zs.map Int.toNat) ∧ ∀ x ∈ zs.map Int.toNat, x < 4294967296 := by
  obtain ⟨A, cap, h1, h2, h3, h4⟩ := h
  refine ⟨⟨A, cap, by rw [List.length_map]; exact h1, by rw [List.length_map]; exact h2, h3, fun hp => ?_⟩, fun x hx => ?_⟩
  · rw [List.length_map] at hp
    obtain ⟨b, off, e, hS, hc⟩ := h4 hp
    refine ⟨b, off, e, hS, fun j x hx => ?_⟩
    rw [List.getElem?_map] at hx
    match hy : zs[j]?, hx with
    | some z, hx =>
      obtain rfl : z.toNat = x := by simpa using hx
      have := u32_wf (hz z (List.mem_of_getElem? hy))
      rw [hc j z hy]
      show some (Value.int .u32 z) = some (Value.int .u32 ((z.toNat : Nat) : Int))
      rw [Int.toNat_of_nonneg this.1]
  · obtain ⟨z, hz', rfl⟩ := List.mem_map.1 hx
    have := u32_wf (hz z hz')
    omega

end Go.Proofs.Ytmfndimejnbgkaa.Law
