/-
  A row of items that the call itself has made: its cells, what is appended, what is stored.
-/
import Derived.Test.YtffehnojcajhiaaWireApt
import Derived.Maps.AppendAt
import Derived.OwnWalk
namespace Go.Proofs.Ytffehnojcajhiaa.Wire
open Go Go.RowKit Go.Proofs.Ytffehnojcajhiaa.Law

/-- Items as cells, their lists' values by number. -/
def flat : List Item → (Nat → Value) → List Value
  | [], _ => []
  | x :: r, val => .int .i64 x.kind :: .int .i64 x.n :: .string x.s :: val 0 :: flat r (fun j => val (j + 1))

theorem flat_length : ∀ (l : List Item) (val : Nat → Value), (flat l val).length = l.length * 4
  | [], _ => rfl
  | x :: r, val => by simp only [flat, List.length_cons, flat_length r]; omega
theorem flat_congr (l : List Item) (val val' : Nat → Value) (h : ∀ j, j < l.length → val j = val' j) : flat l val = flat l val' := by
  induction l generalizing val val' with
  | nil => rfl
  | cons x r ih =>
    simp only [flat]
    rw [h 0 (by simp), ih (fun j => val (j + 1)) (fun j => val' (j + 1)) (fun j hj => h (j + 1) (by simpa using hj))]
theorem flat_append : ∀ (a b : List Item) (val : Nat → Value), flat (a ++ b) val = flat a val ++ flat b (fun j => val (a.length + j))
  | [], b, val => by simp [flat]
  | x :: a, b, val => by
    simp only [List.cons_append, flat, flat_append a b, List.length_cons]
    congr 5
    exact flat_congr b _ _ (fun j _ => by congr 1; omega)
theorem flat_get : ∀ (l : List Item) (val : Nat → Value) (j : Nat) (x : Item), l[j]? = some x →
    (flat l val)[j * 4]? = some (.int .i64 x.kind) ∧ (flat l val)[j * 4 + 1]? = some (.int .i64 x.n) ∧ (flat l val)[j * 4 + 2]? = some (.string x.s) ∧ (flat l val)[j * 4 + 3]? = some (val j)
  | [], _, j, x, h => by simp at h
  | y :: r, val, 0, x, h => by simp at h; subst h; simp [flat]
  | y :: r, val, j + 1, x, h => by
    have := flat_get r (fun j => val (j + 1)) j x (by simpa using h)
    simp only [flat]
    rw [show (j + 1) * 4 = j * 4 + 1 + 1 + 1 + 1 by omega, show j * 4 + 1 + 1 + 1 + 1 + 1 = j * 4 + 1 + 1 + 1 + 1 + 1 by rfl]
    exact this
theorem flat_all : ∀ (l : List Item) (val : Nat → Value) (o : Nat) (P : Nat → Value → Prop), (∀ j x, l[j]? = some x → P (o + j * 4) (.int .i64 x.kind) ∧ P (o + j * 4 + 1) (.int .i64 x.n) ∧ P (o + j * 4 + 2) (.string x.s) ∧ P (o + j * 4 + 3) (val j)) →
    ∀ i v, (flat l val)[i]? = some v → P (o + i) v
  | [], _, _, _, _, i, v, h => by simp [flat] at h
  | y :: r, val, o, P, hP, i, v, h => by
    have h0 := hP 0 y rfl
    have ih := flat_all r (fun j => val (j + 1)) (o + 4) P (fun j x hx => by
      have := hP (j + 1) x (by simpa using hx)
      rw [show o + (j + 1) * 4 = o + 4 + j * 4 by omega] at this
      exact this)
    match i, h with
    | 0, h => simp [flat] at h; subst h; simpa using h0.1
    | 1, h => simp [flat] at h; subst h; simpa using h0.2.1
    | 2, h => simp [flat] at h; subst h; simpa using h0.2.2.1
    | 3, h => simp [flat] at h; subst h; simpa using h0.2.2.2
    | i + 4, h =>
      have h' : (flat r fun j => val (j + 1))[i]? = some v := by simpa [flat] using h
      have := ih i v h'
      rwa [show o + 4 + i = o + (i + 4) by omega] at this
theorem flat_set : ∀ (l : List Item) (val : Nat → Value) (j : Nat) (u : Value), (flat l val).set (j * 4 + 3) u = flat l (fun i => if i = j then u else val i)
  | [], _, _, _ => rfl
  | x :: r, val, 0, u => by
    simp only [flat, Nat.zero_mul, Nat.zero_add, List.set_cons_succ, List.set_cons_zero, if_true]
    rw [flat_congr r (fun j => val (j + 1)) (fun j => if j + 1 = 0 then u else val (j + 1)) (fun j _ => by simp)]
  | x :: r, val, j + 1, u => by
    simp only [flat]
    rw [show (j + 1) * 4 + 3 = j * 4 + 3 + 1 + 1 + 1 + 1 by omega]
    simp only [List.set_cons_succ]
    rw [flat_set r (fun j => val (j + 1)) j u]
    simp
theorem flat_one : ∀ (l : List Item) (val : Nat → Value), (∀ j, j < l.length → (val j).oneCell' = true) → ∀ u ∈ flat l val, u.oneCell' = true
  | [], _, _, u, h => by simp [flat] at h
  | x :: r, val, hv, u, h => by
    simp only [flat, List.mem_cons] at h
    rcases h with rfl | rfl | rfl | rfl | h
    · rfl
    · rfl
    · rfl
    · exact hv 0 (by simp)
    · exact flat_one r (fun j => val (j + 1)) (fun j hj => hv (j + 1) (by simpa using hj)) u h

/-- A row of items of the call's own. -/
def OwnR (W : World) (base : Nat) (v : Value) (l : List Item) (val : Nat → Value) : Prop := W.ownsRow base 71 4 v l.length (flat l val) ∧ ∀ j, j < l.length → (val j).oneCell' = true

theorem OwnR.nil (W : World) (base : Nat) (val : Nat → Value) : OwnR W base (.slice none 0 0) [] val := ⟨by simpa [flat] using World.ownsRow_nil W base 71 4, fun j h => by simp at h⟩
theorem OwnR.form {W : World} {base : Nat} {v : Value} {l : List Item} {val : Nat → Value} (h : OwnR W base v l val) : ∃ A cap, v = .slice A l.length cap ∧ l.length ≤ cap := by
  rcases h.1.2 with ⟨rfl, hz⟩ | ⟨g, cap, cur, rfl, _, _, hn, _⟩
  · exact ⟨none, 0, by rw [hz], by omega⟩
  · exact ⟨_, cap, rfl, hn⟩
theorem OwnR.below {W W' : World} {base : Nat} {v : Value} {l : List Item} {val : Nat → Value} (h : OwnR W base v l val) (hb : Below W.heap.size W W') : OwnR W' base v l val := by
  have hlt := h.1.lt
  refine ⟨⟨h.1.1, ?_⟩, h.2⟩
  rcases h.1.2 with h0 | ⟨g, cap, cur, rfl, h1, h2, h3⟩
  · exact .inl h0
  · exact .inr ⟨g, cap, cur, rfl, h1, (hb.block g (hlt g rfl).2).trans h2, h3⟩
theorem OwnR.lower {W : World} {base b' : Nat} {v : Value} {l : List Item} {val : Nat → Value} (h : OwnR W base v l val) (hb : b' ≤ base) : OwnR W b' v l val := by
  refine ⟨⟨h.1.1, ?_⟩, h.2⟩
  rcases h.1.2 with h0 | ⟨g, cap, cur, rfl, h1, h2⟩
  · exact .inl h0
  · exact .inr ⟨g, cap, cur, rfl, by omega, h2⟩
/-- Its items' cells. -/
theorem OwnR.cells {W : World} {base g len cap : Nat} {l : List Item} {val : Nat → Value} (h : OwnR W base (.slice (some ⟨g, 0, none⟩) len cap) l val) (hl : l.length = len) {j : Nat} {x : Item} (hx : l[j]? = some x) :
    Cells4 W g (j * 4) x (val j) ∧ ∀ i, W.frozen? ⟨g, i, none⟩ = false := by
  subst hl
  have hj : j < l.length := (List.getElem?_eq_some_iff.1 hx).1
  obtain ⟨h0, h1, h2, h3⟩ := flat_get l val j x hx
  exact ⟨⟨by rw [h.1.cellAt _ (by omega)]; exact h0, by rw [h.1.cellAt _ (by omega)]; exact h1, by rw [h.1.cellAt _ (by omega)]; exact h2, by rw [h.1.cellAt _ (by omega)]; exact h3⟩, fun i => h.1.frozenAt i⟩
/-- A row of the call's own reads as its items. -/
theorem OwnR.items {S : Nat → Prop} {W : World} {base : Nat} {v : Value} {l : List Item} {val : Nat → Value} (h : OwnR W base v l val) (hS : ∀ b, v.ownBlock = some b → S b) (hk : ∀ j x, l[j]? = some x → Items S W (val j) x.kids) : Items S W v l := by
  rcases h.1.2 with ⟨rfl, hz⟩ | ⟨g, cap, cur, hv, _, _, hn, _⟩
  · exact .nil none 0 l (fun _ => rfl) (List.eq_nil_of_length_eq_zero hz)
  · subst hv
    exact .row g 0 l.length cap l val rfl hn (fun _ => hS g rfl) (fun j x hx => by rw [Nat.zero_add]; exact (h.cells rfl hx).1) hk
/-- A list's value is stored. -/
theorem OwnR.store {W : World} {base g len cap : Nat} {l : List Item} {val : Nat → Value} (h : OwnR W base (.slice (some ⟨g, 0, none⟩) len cap) l val) (hl : l.length = len) (j : Nat) (u : Value) (hu : u.oneCell' = true) :
    OwnR (W.setCell ⟨g, j * 4 + 3, none⟩ u) base (.slice (some ⟨g, 0, none⟩) len cap) l (fun i => if i = j then u else val i) := by
  subst hl
  refine ⟨?_, fun i hi => ?_⟩
  · have := (h.1.stored (j * 4 + 3) u).1
    rw [flat_set] at this
    exact this
  · dsimp only
    split
    · exact hu
    · exact h.2 i hi

theorem info_item : (Try.prog.info? 71).map (fun i => (i.zero, i.size, i.bytes)) = some (some (.agg #[.int .i64 0, .int .i64 0, .string ⟨#[]⟩, .slice none 0 0]), 4, 56) := by kernel_rfl

theorem slice_one {A : Option Addr} {len cap : Nat} : (Value.slice A len cap).oneCell' = true := rfl

set_option maxRecDepth 100000 in
/-- Items that lie in a row are appended onto a row of the call's own. -/
theorem run_append_items (w : World) (ty : TypeId) {base : Nat} {v : Value} {l m : List Item} {val u : Nat → Value} (hown : OwnR w base v l val) (b off cap : Nat)
    (hcell : ∀ j x, m[j]? = some x → Cells4 w b (off + j * 4) x (u j)) (hu : ∀ j, j < m.length → (u j).oneCell' = true)
    (hroom : (l.length + m.length) * 56 ≤ 140737488355328) (hbase : base ≤ w.heap.size) :
    ∃ v' w', (Builtin.append_ #[51, 51] ty #[v, .slice (some ⟨b, off, none⟩) m.length cap]).run Try.prog w = .ok v' w' ∧ OwnR w' base v' (l ++ m) (fun j => if j < l.length then val j else u (j - l.length)) ∧ w.grownBy w' v.ownBlock ∧ (v'.ownBlock = v.ownBlock ∨ v'.ownBlock = some w.heap.size) := by
  obtain ⟨i0, hi, hz0, hz1, hz2⟩ := info_parts info_item
  have hnews : ∀ j x, (flat m u)[j]? = some x → w.cell? ((⟨b, off, none⟩ : Addr).add j) = some x := fun j x hx => by
    rw [Addr.add_lit]
    exact flat_all m u off (fun i v => w.cell? ⟨b, i, none⟩ = some v) hcell j x hx
  obtain ⟨v', w', hrun, h2, h3, _, h5⟩ := run_append_own_at (P := Try.prog) w base 51 ty 71 i0 _ 4 56 Try.underlying51 hi hz0 hz1 hz2 rfl (by decide) v l.length (flat l val) hown.1 ⟨b, off, none⟩ m.length cap (flat m u) (flat_length m u) hnews (flat_one m u hu) (by simp only [maxLen]; omega) hroom hbase
  refine ⟨v', w', hrun, ⟨?_, fun j hj => ?_⟩, h3, h5⟩
  · rw [List.length_append, flat_append, flat_congr l _ val (fun j hj => by simp [hj]), flat_congr m _ u (fun j _ => by rw [if_neg (by omega)]; congr 1; omega)]
    exact h2
  · dsimp only
    split
    · rename_i h; exact hown.2 j h
    · rw [List.length_append] at hj; exact hu _ (by omega)

end Go.Proofs.Ytffehnojcajhiaa.Wire
