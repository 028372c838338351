/-
  A slice value that reads as a list, two cells an element. Of whatever program.
-/
import Derived.Test.YtmfndimejnbgkaaRowTwo
namespace Go.Proofs.Ytmfndimejnbgkaa.Law
open Go Go.RowKit

section
variable {α : Type} {f g : α → Value}
/-- The slice value reads as this list, cells f and g an element; its block is in S. -/
def TwoAt (f g : α → Value) (S : Nat → Prop) (W : World) (v : Value) (l : List α) : Prop :=
  ∃ A cap, v = .slice A l.length cap ∧ l.length ≤ cap ∧ (A = none → cap = 0) ∧ (0 < l.length → ∃ b off, A = some ⟨b, off, none⟩ ∧ S b ∧ ∀ j x, l[j]? = some x → W.cell? ⟨b, off + j * 2, none⟩ = some (f x) ∧ W.cell? ⟨b, off + j * 2 + 1, none⟩ = some (g x))
theorem TwoAt.nil (S : Nat → Prop) (W : World) : TwoAt f g S W (.slice none 0 0) [] := ⟨none, 0, rfl, Nat.le_refl _, fun _ => rfl, fun h => absurd h (Nat.lt_irrefl _)⟩
theorem TwoAt.form {S : Nat → Prop} {W : World} {v : Value} {l : List α} (h : TwoAt f g S W v l) : ∃ A cap, v = .slice A l.length cap ∧ l.length ≤ cap := by
  obtain ⟨A, cap, h1, h2, _⟩ := h; exact ⟨A, cap, h1, h2⟩
theorem TwoAt.at {S : Nat → Prop} {W : World} {A : Option Addr} {len cap : Nat} {l : List α} (h : TwoAt f g S W (.slice A len cap) l) (hp : 0 < len) :
    ∃ b off, A = some ⟨b, off, none⟩ ∧ S b ∧ ∀ j x, l[j]? = some x → W.cell? ⟨b, off + j * 2, none⟩ = some (f x) ∧ W.cell? ⟨b, off + j * 2 + 1, none⟩ = some (g x) := by
  obtain ⟨A', cap', h1, _, _, h4⟩ := h
  simp only [Value.slice.injEq] at h1
  obtain ⟨rfl, rfl, rfl⟩ := h1
  exact h4 hp
theorem TwoAt.keep {S T : Nat → Prop} {W W' : World} (hb : ∀ b, S b → W'.heap[b]? = W.heap[b]?) (hST : ∀ b, S b → T b) {v : Value} {l : List α} (h : TwoAt f g S W v l) : TwoAt f g T W' v l := by
  obtain ⟨A, cap, h1, h2, h3, h4⟩ := h
  refine ⟨A, cap, h1, h2, h3, fun hp => ?_⟩
  obtain ⟨b, off, e, hS, hc⟩ := h4 hp
  refine ⟨b, off, e, hST b hS, fun j x hx => ?_⟩
  simp only [World.cell?, hb b hS]
  exact hc j x hx
theorem TwoAt.mono {S T : Nat → Prop} {W : World} (hST : ∀ b, S b → T b) {v : Value} {l : List α} (h : TwoAt f g S W v l) : TwoAt f g T W v l := h.keep (fun _ _ => rfl) hST
/-- .. in old blocks. -/
abbrev OldT (f g : α → Value) (n : Nat) (W : World) (v : Value) (l : List α) : Prop := TwoAt f g (fun b => b < n) W v l
theorem TwoAt.low {n : Nat} {A B : World} (h : Below n A B) {v : Value} {l : List α} (hI : OldT f g n A v l) : OldT f g n B v l := hI.keep (fun b hb => h.block b hb) (fun _ h => h)
theorem TwoAt.on {A B : World} (h : Below A.heap.size A B) {v : Value} {l : List α} (hI : OldT f g A.heap.size A v l) : OldT f g B.heap.size B v l := (TwoAt.low h hI).mono (fun _ hb => Nat.lt_of_lt_of_le hb h.size)
theorem OwnTwo.two {e : TypeId} {W : World} {base : Nat} {v : Value} {l : List α} (h : OwnTwo f g e W base v l) : TwoAt f g (fun k => base ≤ k ∧ k < W.heap.size) W v l := by
  rcases id h.2 with ⟨rfl, hz⟩ | ⟨b, cap, cur, rfl, _, _, hn, _⟩
  · exact ⟨none, 0, by rw [hz], by omega, fun _ => rfl, fun hp => absurd hp (by omega)⟩
  · refine ⟨_, cap, rfl, hn, (fun h => by cases h), fun hp => ?_⟩
    refine ⟨b, 0, rfl, h.own rfl, fun j x hx => ?_⟩
    obtain ⟨b', e1, _, _, _, h1, h2⟩ := OwnTwo.cell h hx
    simp only [Option.some.injEq, Addr.mk.injEq, and_true] at e1
    subst e1
    rw [Nat.zero_add]
    exact ⟨h1, h2⟩
theorem OwnTwo.old {e : TypeId} {W : World} {base : Nat} {v : Value} {l : List α} (h : OwnTwo f g e W base v l) : OldT f g W.heap.size W v l := h.two.mono fun _ hk => hk.2
theorem OwnTwo.base {e : TypeId} {W : World} {base base' : Nat} {v : Value} {l : List α} (h : OwnTwo f g e W base v l) (hb : base' ≤ base) : OwnTwo f g e W base' v l := by
  refine ⟨h.1, ?_⟩
  rcases h.2 with h0 | ⟨b, cap, cur, h1, h2, h3⟩
  · exact .inl h0
  · exact .inr ⟨b, cap, cur, h1, Nat.le_trans hb h2, h3⟩
theorem TwoAt.front {S : Nat → Prop} {W : World} {A : Option Addr} {len cap : Nat} {l : List α} (h : TwoAt f g S W (.slice A len cap) l) (k c : Nat) (hk : k ≤ len) (hc : k ≤ c) (hA : A = none → c = 0) : TwoAt f g S W (.slice A k c) (l.take k) := by
  obtain ⟨A', cap', e, h1, h2, h4⟩ := h
  simp only [Value.slice.injEq] at e
  obtain ⟨rfl, rfl, rfl⟩ := e
  have hl : (l.take k).length = k := by rw [List.length_take]; omega
  refine ⟨A, c, by rw [hl], by omega, hA, fun hp => ?_⟩
  obtain ⟨b, off, e1, h5, h6⟩ := h4 (by omega)
  refine ⟨b, off, e1, h5, fun j x hx => h6 j x ?_⟩
  rw [List.getElem?_take] at hx
  split at hx
  · exact hx
  · cases hx
/-- One more behind, where there is room: whatever is appended lies two cells long at an address. -/
theorem OwnTwo.appendAt {P : Program} {w : World} {t e : TypeId} (ty : TypeId) {i : TypeInfo} {z : Value} {by_ : Nat} (hf : ∀ x, (f x).oneCell' = true) (hg : ∀ x, (g x).oneCell' = true) (ht : P.underlying t = some (.slice e)) (hi : P.info? e = some i) (hz : i.zero = some z)
    (hsize : i.size = 2) (hby : i.bytes = by_) (hzs : z.cells.size = 2) {base : Nat} {v : Value} {l : List α} (h : OwnTwo f g e w base v l) (hbase : base ≤ w.heap.size) {S : Nat → Prop} {sv : Value} {m : List α} (hsv : TwoAt f g S w sv m) (hm : l.length + m.length ≤ maxLen)
    (hroom : (l.length + m.length) * by_ ≤ 140737488355328) :
    ∃ v' W', (Builtin.append_ #[t, t] ty #[v, sv]).run P w = .ok v' W' ∧ OwnTwo f g e W' base v' (l ++ m) ∧ w.grownBy W' v.ownBlock ∧ (v'.ownBlock = v.ownBlock ∨ v'.ownBlock = some w.heap.size) := by
  obtain ⟨A, cap, rfl, _, hA, hc⟩ := hsv
  cases A with
  | none =>
    have hb0 : m.length = 0 := by
      rcases Nat.eq_zero_or_pos m.length with h0 | h0
      · exact h0
      · obtain ⟨b, off, he, _⟩ := hc h0
        cases he
    obtain rfl : m = [] := List.length_eq_zero_iff.1 hb0
    obtain rfl : cap = 0 := hA rfl
    exact ⟨v, w, run_append_owned_none (P := P) (w := w) base t ty e i 2 ht hi v l.length (flat2 f g l) h, by simpa using h, ⟨rfl, rfl, rfl, Nat.le_refl _, fun _ _ _ => rfl⟩, .inl rfl⟩
  | some a =>
    have hnews : ∀ (j : Nat) (u : Value), (flat2 f g m)[j]? = some u → w.cell? (a.add j) = some u := by
      intro j u hu
      have hj : j < m.length * 2 := by rw [← flat2_length (f := f) (g := g)]; exact (List.getElem?_eq_some_iff.1 hu).1
      obtain ⟨b, off, he, _, hcell⟩ := hc (by omega)
      obtain rfl : a = ⟨b, off, none⟩ := by simpa using he
      have hq : j / 2 < m.length := by omega
      obtain ⟨h1, h2⟩ := hcell (j / 2) m[j / 2] (List.getElem?_eq_getElem hq)
      obtain ⟨g1, g2⟩ := flat2_get (f := f) (g := g) (List.getElem?_eq_getElem hq)
      rw [Addr.add_lit]
      rcases (by omega : j = j / 2 * 2 ∨ j = j / 2 * 2 + 1) with e | e
      · rw [← e] at g1 h1
        rw [h1]; rw [g1] at hu; exact hu
      · rw [← e] at g2
        have h2' : off + j = off + j / 2 * 2 + 1 := by omega
        rw [h2', h2]; rw [g2] at hu; exact hu
    obtain ⟨v', W', hrun, h2, h3, _, h5⟩ := run_append_own_at (P := P) w base t ty e i z 2 by_ ht hi hz hsize hby hzs (by decide) v l.length (flat2 f g l) h a m.length cap (flat2 f g m) (flat2_length _) hnews (flat2_one hf hg m) hm hroom hbase
    refine ⟨v', W', hrun, ?_, h3, h5⟩
    unfold OwnTwo
    rw [List.length_append, flat2_append]
    exact h2
/-- .. into the room that is there, however long. -/
theorem OwnTwo.appendRoom {P : Program} (w : World) {t e : TypeId} (ty : TypeId) {i : TypeInfo} (hf : ∀ x, (f x).oneCell' = true) (hg : ∀ x, (g x).oneCell' = true) (ht : P.underlying t = some (.slice e)) (hi : P.info? e = some i)
    (hsize : i.size = 2) {base b cap : Nat} {l : List α} (h : OwnTwo f g e w base (.slice (some ⟨b, 0, none⟩) l.length cap) l) (x : α) (hroom : l.length + 1 ≤ cap) :
    ∃ W', (Builtin.append_ #[t, t] ty #[.slice (some ⟨b, 0, none⟩) l.length cap, .slice (some ⟨w.heap.size, 0, none⟩) 1 1]).run P (w.alloc (.cells #[f x, g x] e)) = .ok (.slice (some ⟨b, 0, none⟩) (l.length + 1) cap) W' ∧ OwnTwo f g e W' base (.slice (some ⟨b, 0, none⟩) (l.length + 1) cap) (l ++ [x]) ∧ w.grownBy W' (some b) := by
  have h1 : (w.alloc (.cells #[f x, g x] e)).ownsRow base e 2 (.slice (some ⟨b, 0, none⟩) l.length cap) l.length (flat2 f g l) := h.below ((Below.refl _ _).alloc (Nat.le_refl _) _)
  have hnew := heap_alloc_new w (.cells #[f x, g x] e)
  have hnews : ∀ (j : Nat) (u : Value), (flat2 f g [x])[j]? = some u → (w.alloc (.cells #[f x, g x] e)).cell? ((⟨w.heap.size, 0, none⟩ : Addr).add j) = some u := by
    intro j u hu
    rw [Addr.add_lit, Nat.zero_add]
    have e1 : flat2 f g [x] = [f x, g x] := rfl
    rw [e1] at hu
    simp only [World.cell?, hnew, Option.isSome_none, Bool.false_eq_true, if_false]
    rw [← Array.getElem?_toList]
    exact hu
  rcases h1.2 with ⟨h0, _⟩ | ⟨g', cap', cur, hv, hbg, hgb, hnc, hcm, hcs, htake⟩
  · cases h0
  · simp only [Value.slice.injEq, Option.some.injEq, Addr.mk.injEq, and_true, true_and] at hv
    obtain ⟨rfl, rfl⟩ := hv
    have hfit : l.length * i.size + (flat2 f g [x]).length ≤ cur.size := by
      rw [hcs, hsize, flat2_length]
      have : (l.length + 1) * 2 ≤ cap * 2 := Nat.mul_le_mul_right 2 hroom
      simp only [List.length_singleton]
      omega
    have hr := run_append_room (P := P) (w.alloc (.cells #[f x, g x] e)) t ty e i ht hi b l.length cap cur hgb ⟨w.heap.size, 0, none⟩ 1 1 (flat2 f g [x]) (by rw [flat2_length, hsize]; rfl) hnews (flat2_one hf hg [x]) hroom hfit
    refine ⟨_, hr, ⟨by rw [flat2_append, List.length_append, List.length_append, flat2_length, flat2_length, Nat.add_mul], .inr ⟨b, cap, _, by rw [List.length_append]; rfl, hbg, setRow_heap _ b cur _ e _ hgb, by rw [List.length_append]; exact hroom, hcm, ?_, ?_⟩⟩, (World.grownBy_alloc w _ _).trans ⟨rfl, rfl, rfl, by simp, fun k _ hk => setRow_other _ b k _ (fun e => hk (by rw [e]))⟩⟩
    · simp only [List.size_toArray, List.length_append, List.length_take, List.length_drop, Array.length_toList]
      omega
    · rw [hsize, htake, flat2_append]
      have e2 : (l ++ [x]).length * 2 = (flat2 f g l ++ flat2 f g [x]).length := by rw [List.length_append, List.length_append, flat2_length, flat2_length, Nat.add_mul]
      rw [e2]
      exact List.take_left
end
end Go.Proofs.Ytmfndimejnbgkaa.Law
