/-
  Rows whose elements are k cells each, told by a list of values an element: a slice value that reads as a list, a row of the call's own, an append onto it. Of whatever program.
-/
import Derived.Test.YtmfndimejnbgkaaOps
import Derived.Laws.Rows
import Derived.Maps.AppendAt
namespace Go.Proofs.Ytmfndimejnbgkaa.Law
open Go Go.RowKit

section
variable {α : Type} (c : α → List Value)
/-- All cells. -/
def flatN : List α → List Value
  | [] => []
  | x :: r => c x ++ flatN r
end
/-- The kind of an element: its cells, how many. -/
structure Kd (α : Type) where
  c : α → List Value
  k : Nat
  pos : 0 < k
  len : ∀ x, (c x).length = k
  one : ∀ x, ∀ u ∈ c x, u.oneCell' = true
section
variable {α : Type} {K : Kd α}
theorem flatN_append : ∀ a b : List α, flatN K.c (a ++ b) = flatN K.c a ++ flatN K.c b
  | [], _ => rfl
  | x :: a, b => by rw [List.cons_append, flatN, flatN, flatN_append a b, List.append_assoc]
theorem flatN_length : ∀ l : List α, (flatN K.c l).length = l.length * K.k
  | [] => by simp [flatN]
  | x :: r => by rw [flatN, List.length_append, K.len, flatN_length r, List.length_cons, Nat.add_mul, Nat.one_mul, Nat.add_comm]
theorem flatN_get : ∀ {l : List α} {j : Nat} {x : α}, l[j]? = some x → ∀ i, i < K.k → (flatN K.c l)[j * K.k + i]? = (K.c x)[i]?
  | [], j, x, hx, i, hi => by simp at hx
  | y :: r, 0, x, hx, i, hi => by
    obtain rfl : y = x := by simpa using hx
    rw [flatN, Nat.zero_mul, Nat.zero_add, List.getElem?_append_left (by rw [K.len]; exact hi)]
  | y :: r, j + 1, x, hx, i, hi => by
    have := flatN_get (l := r) (j := j) (x := x) (by simpa using hx) i hi
    have e : (j + 1) * K.k + i = K.k + (j * K.k + i) := by rw [Nat.add_mul, Nat.one_mul]; omega
    rw [e, flatN, List.getElem?_append_right (by rw [K.len]; omega), K.len, Nat.add_sub_cancel_left]
    exact this
theorem flatN_one : ∀ (l : List α), ∀ u ∈ flatN K.c l, u.oneCell' = true
  | [], u, hu => by cases hu
  | x :: r, u, hu => by
    rw [flatN, List.mem_append] at hu
    rcases hu with hu | hu
    · exact K.one x u hu
    · exact flatN_one r u hu
theorem flatN_take : ∀ (l : List α) (k : Nat), (flatN K.c l).take (k * K.k) = flatN K.c (l.take k)
  | [], k => by simp [flatN]
  | m :: r, 0 => by simp [flatN]
  | m :: r, k + 1 => by
    rw [Nat.add_mul, Nat.one_mul, Nat.add_comm, flatN, List.take_append, K.len, Nat.add_sub_cancel_left, flatN_take r k, List.take_of_length_le (by rw [K.len]; omega), List.take_succ_cons, flatN]
theorem flatN_drop : ∀ (l : List α) (k : Nat), (flatN K.c l).drop (k * K.k) = flatN K.c (l.drop k)
  | [], k => by simp [flatN]
  | m :: r, 0 => by simp [flatN]
  | m :: r, k + 1 => by
    rw [Nat.add_mul, Nat.one_mul, Nat.add_comm, flatN, List.drop_append, K.len, Nat.add_sub_cancel_left, flatN_drop r k, List.drop_of_length_le (by rw [K.len]; omega), List.nil_append, List.drop_succ_cons]
theorem flatN_set : ∀ (l : List α) (i : Nat) (x y : α) (j : Nat) (v : Value), l[i]? = some x → j < K.k → (K.c x).set j v = K.c y → (flatN K.c l).set (i * K.k + j) v = flatN K.c (l.set i y)
  | [], i, x, y, j, v, hx, hj, h => by simp at hx
  | z :: r, 0, x, y, j, v, hx, hj, h => by
    obtain rfl : z = x := by simpa using hx
    rw [Nat.zero_mul, Nat.zero_add, flatN, List.set_append_left _ _ (by rw [K.len]; exact hj), h, List.set_cons_zero, flatN]
  | z :: r, i + 1, x, y, j, v, hx, hj, h => by
    have := flatN_set r i x y j v (by simpa using hx) hj h
    have e : (i + 1) * K.k + j = K.k + (i * K.k + j) := by rw [Nat.add_mul, Nat.one_mul]; omega
    rw [e, flatN, List.set_append_right _ _ (by rw [K.len]; omega), K.len, Nat.add_sub_cancel_left, this, List.set_cons_succ, flatN]

/-- The cells of an element. -/
def CellsN (K : Kd α) (W : World) (b o : Nat) (x : α) : Prop := ∀ i u, (K.c x)[i]? = some u → W.cell? ⟨b, o + i, none⟩ = some u
/-- The slice value reads as this list; its block is in S. -/
def RowsAt (K : Kd α) (S : Nat → Prop) (W : World) (v : Value) (l : List α) : Prop :=
  ∃ A cap, v = .slice A l.length cap ∧ l.length ≤ cap ∧ (A = none → cap = 0) ∧ (0 < l.length → ∃ b off, A = some ⟨b, off, none⟩ ∧ S b ∧ ∀ j x, l[j]? = some x → CellsN K W b (off + j * K.k) x)
theorem RowsAt.nil (K : Kd α) (S : Nat → Prop) (W : World) : RowsAt K S W (.slice none 0 0) [] := ⟨none, 0, rfl, Nat.le_refl _, fun _ => rfl, fun h => absurd h (Nat.lt_irrefl _)⟩
theorem RowsAt.form {S : Nat → Prop} {W : World} {v : Value} {l : List α} (hv : RowsAt K S W v l) : ∃ A cap, v = .slice A l.length cap ∧ l.length ≤ cap := by
  obtain ⟨A, cap, h1, h2, _⟩ := hv; exact ⟨A, cap, h1, h2⟩
theorem RowsAt.at {S : Nat → Prop} {W : World} {A : Option Addr} {len cap : Nat} {l : List α} (hv : RowsAt K S W (.slice A len cap) l) (hp : 0 < len) :
    ∃ b off, A = some ⟨b, off, none⟩ ∧ S b ∧ ∀ j x, l[j]? = some x → CellsN K W b (off + j * K.k) x := by
  obtain ⟨A', cap', h1, _, _, h4⟩ := hv
  simp only [Value.slice.injEq] at h1
  obtain ⟨rfl, rfl, rfl⟩ := h1
  exact h4 hp
theorem CellsN.keep {W W' : World} {b o : Nat} {x : α} (hb : W'.heap[b]? = W.heap[b]?) (hc : CellsN K W b o x) : CellsN K W' b o x := by
  simp only [CellsN, World.cell?, hb]
  exact hc
theorem RowsAt.keep {S T : Nat → Prop} {W W' : World} (hb : ∀ b, S b → W'.heap[b]? = W.heap[b]?) (hST : ∀ b, S b → T b) {v : Value} {l : List α} (hv : RowsAt K S W v l) : RowsAt K T W' v l := by
  obtain ⟨A, cap, h1, h2, h3, h4⟩ := hv
  refine ⟨A, cap, h1, h2, h3, fun hp => ?_⟩
  obtain ⟨b, off, e, hS, hc⟩ := h4 hp
  exact ⟨b, off, e, hST b hS, fun j x hx => (hc j x hx).keep (hb b hS)⟩
theorem RowsAt.mono {S T : Nat → Prop} {W : World} (hST : ∀ b, S b → T b) {v : Value} {l : List α} (hv : RowsAt K S W v l) : RowsAt K T W v l := hv.keep (fun _ _ => rfl) hST
/-- .. in old blocks. -/
abbrev OldN (K : Kd α) (n : Nat) (W : World) (v : Value) (l : List α) : Prop := RowsAt K (fun b => b < n) W v l
theorem RowsAt.low {n : Nat} {A B : World} (hB : Below n A B) {v : Value} {l : List α} (hI : OldN K n A v l) : OldN K n B v l := hI.keep (fun b hb => hB.block b hb) (fun _ h => h)
theorem RowsAt.on {A B : World} (hB : Below A.heap.size A B) {v : Value} {l : List α} (hI : OldN K A.heap.size A v l) : OldN K B.heap.size B v l := (RowsAt.low hB hI).mono (fun _ hb => Nat.lt_of_lt_of_le hb hB.size)

/-- A row of the call's own. -/
def OwnN (K : Kd α) (e : TypeId) (W : World) (base : Nat) (v : Value) (l : List α) : Prop := W.ownsRow base e K.k v l.length (flatN K.c l)
theorem OwnN.nil (K : Kd α) (e : TypeId) (W : World) (base : Nat) : OwnN K e W base (.slice none 0 0) [] := World.ownsRow_nil W base e K.k
theorem OwnN.form {e : TypeId} {W : World} {base : Nat} {v : Value} {l : List α} (hv : OwnN K e W base v l) : ∃ A cap, v = .slice A l.length cap ∧ l.length ≤ cap := by
  rcases hv.2 with ⟨rfl, hz⟩ | ⟨b, cap, cur, rfl, _, _, hn, _⟩
  · exact ⟨none, 0, by rw [hz], by omega⟩
  · exact ⟨_, cap, rfl, hn⟩
theorem OwnN.own {e : TypeId} {W : World} {base : Nat} {v : Value} {l : List α} (hv : OwnN K e W base v l) {b : Nat} (hg : v.ownBlock = some b) : base ≤ b ∧ b < W.heap.size := hv.lt b hg
theorem OwnN.keep {e : TypeId} {W W' : World} {base : Nat} {v : Value} {l : List α} (hv : OwnN K e W base v l) (hb : ∀ b, v.ownBlock = some b → W'.heap[b]? = W.heap[b]?) : OwnN K e W' base v l := by
  refine ⟨hv.1, ?_⟩
  rcases hv.2 with h0 | ⟨b, cap, cur, rfl, h1, h2, h3⟩
  · exact .inl h0
  · exact .inr ⟨b, cap, cur, rfl, h1, (hb b rfl).trans h2, h3⟩
theorem OwnN.below {e : TypeId} {W W' : World} {base : Nat} {v : Value} {l : List α} (hv : OwnN K e W base v l) (hB : Below W.heap.size W W') : OwnN K e W' base v l := hv.keep fun _ hg => hB.block _ (hv.own hg).2
theorem OwnN.base {e : TypeId} {W : World} {base base' : Nat} {v : Value} {l : List α} (hv : OwnN K e W base v l) (hb : base' ≤ base) : OwnN K e W base' v l := by
  refine ⟨hv.1, ?_⟩
  rcases hv.2 with h0 | ⟨b, cap, cur, h1, h2, h3⟩
  · exact .inl h0
  · exact .inr ⟨b, cap, cur, h1, Nat.le_trans hb h2, h3⟩
theorem OwnN.rows {e : TypeId} {W : World} {base : Nat} {v : Value} {l : List α} (hv : OwnN K e W base v l) : RowsAt K (fun k => base ≤ k ∧ k < W.heap.size) W v l := by
  have hlt := fun (b : Nat) (hg : v.ownBlock = some b) => hv.own hg
  have hcell := fun (b : Nat) (hg : v.ownBlock = some b) => World.ownsRow.cells hv hg
  rcases hv.2 with ⟨rfl, hz⟩ | ⟨b, cap, cur, rfl, _, _, hn, _⟩
  · exact ⟨none, 0, by rw [hz], by omega, fun _ => rfl, fun hp => absurd hp (by omega)⟩
  · refine ⟨_, cap, rfl, hn, (fun h => by cases h), fun hp => ?_⟩
    refine ⟨b, 0, rfl, hlt b rfl, fun j x hx i u hu => ?_⟩
    have hi : i < K.k := by rw [← K.len x]; exact (List.getElem?_eq_some_iff.1 hu).1
    have h1 := hcell b rfl (j * K.k + i) u (by rw [flatN_get hx i hi]; exact hu)
    rw [Addr.add_lit, Nat.zero_add] at h1
    rw [Nat.zero_add]
    exact h1
theorem OwnN.old {e : TypeId} {W : World} {base : Nat} {v : Value} {l : List α} (hv : OwnN K e W base v l) : OldN K W.heap.size W v l := hv.rows.mono fun _ hk => hk.2
/-- A row that is laid as a literal. -/
theorem OwnN.lit (K : Kd α) (e : TypeId) (w : World) (base : Nat) (cs : Array Value) (l : List α) (n : Nat) (hb : base ≤ w.heap.size) (hn : l.length = n) (hm : n ≤ maxLen) (hcs : cs.toList = flatN K.c l) :
    OwnN K e (w.alloc (.cells cs e)) base (.slice (some ⟨w.heap.size, 0, none⟩) n n) l := by
  subst hn
  have h1 := World.ownsRow_lit (base := base) (size := K.k) (e := e) w cs l.length hb hm (by have := congrArg List.length hcs; rw [flatN_length] at this; simpa using this)
  rw [hcs] at h1
  exact h1
/-- An append, whatever slice comes behind. -/
theorem OwnN.appendAt {P : Program} {w : World} {t e : TypeId} (ty : TypeId) {i : TypeInfo} {z : Value} {by_ : Nat} (ht : P.underlying t = some (.slice e)) (hi : P.info? e = some i) (hz : i.zero = some z)
    (hsize : i.size = K.k) (hby : i.bytes = by_) (hzs : z.cells.size = K.k) {base : Nat} {v : Value} {l : List α} (hv : OwnN K e w base v l) (hbase : base ≤ w.heap.size) {S : Nat → Prop} {sv : Value} {m : List α} (hsv : RowsAt K S w sv m) (hm : l.length + m.length ≤ maxLen)
    (hroom : (l.length + m.length) * by_ ≤ 140737488355328) :
    ∃ v' W', (Builtin.append_ #[t, t] ty #[v, sv]).run P w = .ok v' W' ∧ OwnN K e W' base v' (l ++ m) ∧ w.grownBy W' v.ownBlock ∧ (v'.ownBlock = v.ownBlock ∨ v'.ownBlock = some w.heap.size) := by
  obtain ⟨A, cap, rfl, _, hA, hc⟩ := hsv
  cases A with
  | none =>
    have hb0 : m.length = 0 := by
      rcases Nat.eq_zero_or_pos m.length with h0 | h0
      · exact h0
      · obtain ⟨b, off, he, _⟩ := hc h0
        cases he
    obtain rfl : m = [] := List.length_eq_zero_iff.1 hb0
    obtain rfl : cap = 0 := hA rfl
    exact ⟨v, w, run_append_owned_none (P := P) (w := w) base t ty e i K.k ht hi v l.length (flatN K.c l) hv, by simpa using hv, ⟨rfl, rfl, rfl, Nat.le_refl _, fun _ _ _ => rfl⟩, .inl rfl⟩
  | some a =>
    have hnews : ∀ (j : Nat) (u : Value), (flatN K.c m)[j]? = some u → w.cell? (a.add j) = some u := by
      intro j u hu
      have hj : j < m.length * K.k := by rw [← flatN_length (K := K)]; exact (List.getElem?_eq_some_iff.1 hu).1
      have hm0 : 0 < m.length := by
        rcases Nat.eq_zero_or_pos m.length with h0 | h0
        · rw [h0, Nat.zero_mul] at hj; omega
        · exact h0
      obtain ⟨b, off, he, _, hcell⟩ := hc hm0
      obtain rfl : a = ⟨b, off, none⟩ := by simpa using he
      have hq : j / K.k < m.length := Nat.div_lt_of_lt_mul (by rw [Nat.mul_comm]; exact hj)
      have hi' : j % K.k < K.k := Nat.mod_lt _ K.pos
      have e : j / K.k * K.k + j % K.k = j := by rw [Nat.mul_comm]; exact Nat.div_add_mod j K.k
      have h1 := hcell (j / K.k) m[j / K.k] (List.getElem?_eq_getElem hq) (j % K.k) u (by
        rw [← flatN_get (List.getElem?_eq_getElem hq) _ hi', e]; exact hu)
      rw [Addr.add_lit]
      rw [Nat.add_assoc, e] at h1
      exact h1
    obtain ⟨v', W', hrun, h2, h3, _, h5⟩ := run_append_own_at (P := P) w base t ty e i z K.k by_ ht hi hz hsize hby hzs K.pos v l.length (flatN K.c l) hv a m.length cap (flatN K.c m) (flatN_length _) hnews (flatN_one m) hm hroom hbase
    refine ⟨v', W', hrun, ?_, h3, h5⟩
    unfold OwnN
    rw [List.length_append, flatN_append]
    exact h2
/-- .. of a literal of one. -/
theorem OwnN.append {P : Program} (w : World) {t e : TypeId} (ty : TypeId) {i : TypeInfo} {z : Value} {by_ : Nat} (ht : P.underlying t = some (.slice e)) (hi : P.info? e = some i) (hz : i.zero = some z)
    (hsize : i.size = K.k) (hby : i.bytes = by_) (hzs : z.cells.size = K.k) {base : Nat} {v : Value} {l : List α} (hv : OwnN K e w base v l) (hbase : base ≤ w.heap.size) (x : α) (cs : Array Value) (hcs : cs.toList = K.c x) (hm : l.length + 1 ≤ maxLen) (hroom : (l.length + 1) * by_ ≤ 140737488355328) :
    ∃ v' W', (Builtin.append_ #[t, t] ty #[v, .slice (some ⟨w.heap.size, 0, none⟩) 1 1]).run P (w.alloc (.cells cs e)) = .ok v' W' ∧ OwnN K e W' base v' (l ++ [x]) ∧ w.grownBy W' v.ownBlock ∧ (v'.ownBlock = v.ownBlock ∨ v'.ownBlock = some (w.heap.size + 1)) := by
  have h1 : OwnN K e (w.alloc (.cells cs e)) base v l := hv.below ((Below.refl _ _).alloc (Nat.le_refl _) _)
  have hl := (OwnN.lit K e w w.heap.size cs [x] 1 (Nat.le_refl _) rfl (by simp only [maxLen]; omega) (by rw [hcs, flatN, flatN, List.append_nil])).rows
  obtain ⟨v', W', hrun, h2, h3, h5⟩ := h1.appendAt ty ht hi hz hsize hby hzs (by simp; omega) hl (by simpa using hm) (by simpa using hroom)
  exact ⟨v', W', hrun, h2, (World.grownBy_alloc w _ _).trans h3, by simpa using h5⟩
/-- A cell of an element is written. -/
theorem OwnN.set {e : TypeId} {W : World} {base g len cap : Nat} {l : List α} (hv : OwnN K e W base (.slice (some ⟨g, 0, none⟩) len cap) l) {i : Nat} {x y : α} (hx : l[i]? = some x) {j : Nat} {v : Value} (hj : j < K.k) (hy : (K.c x).set j v = K.c y) :
    OwnN K e (W.setCell ⟨g, i * K.k + j, none⟩ v) base (.slice (some ⟨g, 0, none⟩) len cap) (l.set i y) ∧ W.grownBy (W.setCell ⟨g, i * K.k + j, none⟩ v) (some g) := by
  have e1 : len = l.length := by
    obtain ⟨A, c, e1, _⟩ := hv.form
    simp only [Value.slice.injEq] at e1
    exact e1.2.1
  subst e1
  have := World.ownsRow.stored hv (i * K.k + j) v
  refine ⟨?_, this.2⟩
  show World.ownsRow _ _ _ _ _ _ (flatN _ _)
  rw [List.length_set, ← flatN_set l i x y j v hx hj hy]
  exact this.1
end
end Go.Proofs.Ytmfndimejnbgkaa.Law
