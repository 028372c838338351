/-
  Rows whose elements are three cells: a slice value that reads as a list, a row of the call's own, an append onto it. Of whatever program.
-/
import Derived.Test.YtlcmnemneghohaaOps
import Derived.Laws.Rows
import Derived.Maps.AppendAt
namespace Go.Proofs.Ytlcmnemneghohaa.Law
open Go Go.RowKit

section
variable {α : Type} (f g h : α → Value)
/-- Three cells an element. -/
def flat3 : List α → List Value
  | [] => []
  | x :: r => f x :: g x :: h x :: flat3 r
end
section
variable {α : Type} {f g h : α → Value}
theorem flat3_append : ∀ a b : List α, flat3 f g h (a ++ b) = flat3 f g h a ++ flat3 f g h b
  | [], _ => rfl
  | x :: a, b => by rw [List.cons_append, flat3, flat3, flat3_append a b]; rfl
theorem flat3_length : ∀ l : List α, (flat3 f g h l).length = l.length * 3
  | [] => rfl
  | x :: r => by rw [flat3, List.length_cons, List.length_cons, List.length_cons, flat3_length r, List.length_cons]; omega
theorem flat3_get : ∀ {l : List α} {j : Nat} {x : α}, l[j]? = some x → (flat3 f g h l)[j * 3]? = some (f x) ∧ (flat3 f g h l)[j * 3 + 1]? = some (g x) ∧ (flat3 f g h l)[j * 3 + 2]? = some (h x)
  | [], j, x, hx => by simp at hx
  | y :: r, 0, x, hx => by
    obtain rfl : y = x := by simpa using hx
    exact ⟨rfl, rfl, rfl⟩
  | y :: r, j + 1, x, hx => by
    have := flat3_get (l := r) (j := j) (x := x) (by simpa using hx)
    have e : (j + 1) * 3 = j * 3 + 3 := by omega
    rw [e]
    exact this
theorem flat3_one (hf : ∀ x, (f x).oneCell' = true) (hg : ∀ x, (g x).oneCell' = true) (hh : ∀ x, (h x).oneCell' = true) : ∀ (l : List α), ∀ u ∈ flat3 f g h l, u.oneCell' = true
  | [], u, hu => by cases hu
  | x :: r, u, hu => by
    rw [flat3] at hu
    rcases List.mem_cons.1 hu with rfl | hu
    · exact hf x
    · rcases List.mem_cons.1 hu with rfl | hu
      · exact hg x
      · rcases List.mem_cons.1 hu with rfl | hu
        · exact hh x
        · exact flat3_one hf hg hh r u hu
theorem flat3_take : ∀ (l : List α) (k : Nat), (flat3 f g h l).take (k * 3) = flat3 f g h (l.take k)
  | [], k => by simp [flat3]
  | m :: r, 0 => by simp [flat3]
  | m :: r, k + 1 => by
    rw [show (k + 1) * 3 = k * 3 + 1 + 1 + 1 by omega]
    simp only [flat3, List.take_succ_cons, flat3_take r k]
theorem flat3_drop : ∀ (l : List α) (k : Nat), (flat3 f g h l).drop (k * 3) = flat3 f g h (l.drop k)
  | [], k => by simp [flat3]
  | m :: r, 0 => by simp [flat3]
  | m :: r, k + 1 => by
    rw [show (k + 1) * 3 = k * 3 + 1 + 1 + 1 by omega]
    simp only [flat3, List.drop_succ_cons, flat3_drop r k]

/-- The three cells of an element. -/
def Cells3 (f g h : α → Value) (W : World) (b o : Nat) (x : α) : Prop := W.cell? ⟨b, o, none⟩ = some (f x) ∧ W.cell? ⟨b, o + 1, none⟩ = some (g x) ∧ W.cell? ⟨b, o + 2, none⟩ = some (h x)

/-- The slice value reads as this list, cells f, g and h an element; its block is in S. -/
def ThreeAt (f g h : α → Value) (S : Nat → Prop) (W : World) (v : Value) (l : List α) : Prop :=
  ∃ A cap, v = .slice A l.length cap ∧ l.length ≤ cap ∧ (A = none → cap = 0) ∧ (0 < l.length → ∃ b off, A = some ⟨b, off, none⟩ ∧ S b ∧ ∀ j x, l[j]? = some x → Cells3 f g h W b (off + j * 3) x)
theorem ThreeAt.nil (S : Nat → Prop) (W : World) : ThreeAt f g h S W (.slice none 0 0) [] := ⟨none, 0, rfl, Nat.le_refl _, fun _ => rfl, fun h => absurd h (Nat.lt_irrefl _)⟩
theorem ThreeAt.form {S : Nat → Prop} {W : World} {v : Value} {l : List α} (hv : ThreeAt f g h S W v l) : ∃ A cap, v = .slice A l.length cap ∧ l.length ≤ cap := by
  obtain ⟨A, cap, h1, h2, _⟩ := hv; exact ⟨A, cap, h1, h2⟩
theorem ThreeAt.at {S : Nat → Prop} {W : World} {A : Option Addr} {len cap : Nat} {l : List α} (hv : ThreeAt f g h S W (.slice A len cap) l) (hp : 0 < len) :
    ∃ b off, A = some ⟨b, off, none⟩ ∧ S b ∧ ∀ j x, l[j]? = some x → Cells3 f g h W b (off + j * 3) x := by
  obtain ⟨A', cap', h1, _, _, h4⟩ := hv
  simp only [Value.slice.injEq] at h1
  obtain ⟨rfl, rfl, rfl⟩ := h1
  exact h4 hp
theorem Cells3.keep {W W' : World} {b o : Nat} {x : α} (hb : W'.heap[b]? = W.heap[b]?) (hc : Cells3 f g h W b o x) : Cells3 f g h W' b o x := by
  simp only [Cells3, World.cell?, hb]
  exact hc
theorem ThreeAt.keep {S T : Nat → Prop} {W W' : World} (hb : ∀ b, S b → W'.heap[b]? = W.heap[b]?) (hST : ∀ b, S b → T b) {v : Value} {l : List α} (hv : ThreeAt f g h S W v l) : ThreeAt f g h T W' v l := by
  obtain ⟨A, cap, h1, h2, h3, h4⟩ := hv
  refine ⟨A, cap, h1, h2, h3, fun hp => ?_⟩
  obtain ⟨b, off, e, hS, hc⟩ := h4 hp
  exact ⟨b, off, e, hST b hS, fun j x hx => (hc j x hx).keep (hb b hS)⟩
theorem ThreeAt.mono {S T : Nat → Prop} {W : World} (hST : ∀ b, S b → T b) {v : Value} {l : List α} (hv : ThreeAt f g h S W v l) : ThreeAt f g h T W v l := hv.keep (fun _ _ => rfl) hST
/-- .. in old blocks. -/
abbrev Old3 (f g h : α → Value) (n : Nat) (W : World) (v : Value) (l : List α) : Prop := ThreeAt f g h (fun b => b < n) W v l
theorem ThreeAt.low {n : Nat} {A B : World} (hB : Below n A B) {v : Value} {l : List α} (hI : Old3 f g h n A v l) : Old3 f g h n B v l := hI.keep (fun b hb => hB.block b hb) (fun _ h => h)
theorem ThreeAt.on {A B : World} (hB : Below A.heap.size A B) {v : Value} {l : List α} (hI : Old3 f g h A.heap.size A v l) : Old3 f g h B.heap.size B v l := (ThreeAt.low hB hI).mono (fun _ hb => Nat.lt_of_lt_of_le hb hB.size)

/-- A row of the call's own. -/
def OwnThree (f g h : α → Value) (e : TypeId) (W : World) (base : Nat) (v : Value) (l : List α) : Prop := W.ownsRow base e 3 v l.length (flat3 f g h l)
theorem OwnThree.nil (e : TypeId) (W : World) (base : Nat) : OwnThree f g h e W base (.slice none 0 0) [] := World.ownsRow_nil W base e 3
theorem OwnThree.form {e : TypeId} {W : World} {base : Nat} {v : Value} {l : List α} (hv : OwnThree f g h e W base v l) : ∃ A cap, v = .slice A l.length cap ∧ l.length ≤ cap := by
  rcases hv.2 with ⟨rfl, hz⟩ | ⟨b, cap, cur, rfl, _, _, hn, _⟩
  · exact ⟨none, 0, by rw [hz], by omega⟩
  · exact ⟨_, cap, rfl, hn⟩
theorem OwnThree.own {e : TypeId} {W : World} {base : Nat} {v : Value} {l : List α} (hv : OwnThree f g h e W base v l) {b : Nat} (hg : v.ownBlock = some b) : base ≤ b ∧ b < W.heap.size := hv.lt b hg
theorem OwnThree.keep {e : TypeId} {W W' : World} {base : Nat} {v : Value} {l : List α} (hv : OwnThree f g h e W base v l) (hb : ∀ b, v.ownBlock = some b → W'.heap[b]? = W.heap[b]?) : OwnThree f g h e W' base v l := by
  refine ⟨hv.1, ?_⟩
  rcases hv.2 with h0 | ⟨b, cap, cur, rfl, h1, h2, h3⟩
  · exact .inl h0
  · exact .inr ⟨b, cap, cur, rfl, h1, (hb b rfl).trans h2, h3⟩
theorem OwnThree.below {e : TypeId} {W W' : World} {base : Nat} {v : Value} {l : List α} (hv : OwnThree f g h e W base v l) (hB : Below W.heap.size W W') : OwnThree f g h e W' base v l := hv.keep fun _ hg => hB.block _ (hv.own hg).2
theorem OwnThree.base {e : TypeId} {W : World} {base base' : Nat} {v : Value} {l : List α} (hv : OwnThree f g h e W base v l) (hb : base' ≤ base) : OwnThree f g h e W base' v l := by
  refine ⟨hv.1, ?_⟩
  rcases hv.2 with h0 | ⟨b, cap, cur, h1, h2, h3⟩
  · exact .inl h0
  · exact .inr ⟨b, cap, cur, h1, Nat.le_trans hb h2, h3⟩
theorem OwnThree.three {e : TypeId} {W : World} {base : Nat} {v : Value} {l : List α} (hv : OwnThree f g h e W base v l) : ThreeAt f g h (fun k => base ≤ k ∧ k < W.heap.size) W v l := by
  have hlt := fun (b : Nat) (hg : v.ownBlock = some b) => hv.own hg
  have hcell := fun (b : Nat) (hg : v.ownBlock = some b) => World.ownsRow.cells hv hg
  rcases hv.2 with ⟨rfl, hz⟩ | ⟨b, cap, cur, rfl, _, _, hn, _⟩
  · exact ⟨none, 0, by rw [hz], by omega, fun _ => rfl, fun hp => absurd hp (by omega)⟩
  · refine ⟨_, cap, rfl, hn, (fun h => by cases h), fun hp => ?_⟩
    refine ⟨b, 0, rfl, hlt b rfl, fun j x hx => ?_⟩
    obtain ⟨g0, g1, g2⟩ := flat3_get (f := f) (g := g) (h := h) hx
    have h1 := hcell b rfl (j * 3) (f x) g0
    have h2 := hcell b rfl (j * 3 + 1) (g x) g1
    have h3 := hcell b rfl (j * 3 + 2) (h x) g2
    rw [Addr.add_lit, Nat.zero_add] at h1 h2 h3
    rw [Nat.zero_add]
    exact ⟨h1, h2, h3⟩
theorem OwnThree.old {e : TypeId} {W : World} {base : Nat} {v : Value} {l : List α} (hv : OwnThree f g h e W base v l) : Old3 f g h W.heap.size W v l := hv.three.mono fun _ hk => hk.2
/-- A row that is laid as a literal. -/
theorem OwnThree.lit (e : TypeId) (w : World) (base : Nat) (cs : Array Value) (l : List α) (n : Nat) (hb : base ≤ w.heap.size) (hn : l.length = n) (hm : n ≤ maxLen) (hcs : cs.toList = flat3 f g h l) :
    OwnThree f g h e (w.alloc (.cells cs e)) base (.slice (some ⟨w.heap.size, 0, none⟩) n n) l := by
  subst hn
  have h1 := World.ownsRow_lit (base := base) (size := 3) (e := e) w cs l.length hb hm (by have := congrArg List.length hcs; rw [flat3_length] at this; simpa using this)
  rw [hcs] at h1
  exact h1
/-- An append, whatever slice comes behind. -/
theorem OwnThree.appendAt {P : Program} {w : World} {t e : TypeId} (ty : TypeId) {i : TypeInfo} {z : Value} {by_ : Nat} (hf : ∀ x, (f x).oneCell' = true) (hg : ∀ x, (g x).oneCell' = true) (hh : ∀ x, (h x).oneCell' = true) (ht : P.underlying t = some (.slice e)) (hi : P.info? e = some i) (hz : i.zero = some z)
    (hsize : i.size = 3) (hby : i.bytes = by_) (hzs : z.cells.size = 3) {base : Nat} {v : Value} {l : List α} (hv : OwnThree f g h e w base v l) (hbase : base ≤ w.heap.size) {S : Nat → Prop} {sv : Value} {m : List α} (hsv : ThreeAt f g h S w sv m) (hm : l.length + m.length ≤ maxLen)
    (hroom : (l.length + m.length) * by_ ≤ 140737488355328) :
    ∃ v' W', (Builtin.append_ #[t, t] ty #[v, sv]).run P w = .ok v' W' ∧ OwnThree f g h e W' base v' (l ++ m) ∧ w.grownBy W' v.ownBlock ∧ (v'.ownBlock = v.ownBlock ∨ v'.ownBlock = some w.heap.size) := by
  obtain ⟨A, cap, rfl, _, hA, hc⟩ := hsv
  cases A with
  | none =>
    have hb0 : m.length = 0 := by
      rcases Nat.eq_zero_or_pos m.length with h0 | h0
      · exact h0
      · obtain ⟨b, off, he, _⟩ := hc h0
        cases he
    obtain rfl : m = [] := List.length_eq_zero_iff.1 hb0
    obtain rfl : cap = 0 := hA rfl
    exact ⟨v, w, run_append_owned_none (P := P) (w := w) base t ty e i 3 ht hi v l.length (flat3 f g h l) hv, by simpa using hv, ⟨rfl, rfl, rfl, Nat.le_refl _, fun _ _ _ => rfl⟩, .inl rfl⟩
  | some a =>
    have hnews : ∀ (j : Nat) (u : Value), (flat3 f g h m)[j]? = some u → w.cell? (a.add j) = some u := by
      intro j u hu
      have hj : j < m.length * 3 := by rw [← flat3_length (f := f) (g := g) (h := h)]; exact (List.getElem?_eq_some_iff.1 hu).1
      obtain ⟨b, off, he, _, hcell⟩ := hc (by omega)
      obtain rfl : a = ⟨b, off, none⟩ := by simpa using he
      have hq : j / 3 < m.length := by omega
      obtain ⟨h1, h2, h3⟩ := hcell (j / 3) m[j / 3] (List.getElem?_eq_getElem hq)
      obtain ⟨g1, g2, g3⟩ := flat3_get (f := f) (g := g) (h := h) (List.getElem?_eq_getElem hq)
      rw [Addr.add_lit]
      rcases (by omega : j = j / 3 * 3 ∨ j = j / 3 * 3 + 1 ∨ j = j / 3 * 3 + 2) with e | e | e
      · rw [← e] at g1 h1
        rw [h1]; rw [g1] at hu; exact hu
      · rw [← e] at g2
        have h2' : off + j = off + j / 3 * 3 + 1 := by omega
        rw [h2', h2]; rw [g2] at hu; exact hu
      · rw [← e] at g3
        have h3' : off + j = off + j / 3 * 3 + 2 := by omega
        rw [h3', h3]; rw [g3] at hu; exact hu
    obtain ⟨v', W', hrun, h2, h3, _, h5⟩ := run_append_own_at (P := P) w base t ty e i z 3 by_ ht hi hz hsize hby hzs (by decide) v l.length (flat3 f g h l) hv a m.length cap (flat3 f g h m) (flat3_length _) hnews (flat3_one hf hg hh m) hm hroom hbase
    refine ⟨v', W', hrun, ?_, h3, h5⟩
    unfold OwnThree
    rw [List.length_append, flat3_append]
    exact h2
/-- .. of a literal of one. -/
theorem OwnThree.append {P : Program} (w : World) {t e : TypeId} (ty : TypeId) {i : TypeInfo} {z : Value} {by_ : Nat} (hf : ∀ x, (f x).oneCell' = true) (hg : ∀ x, (g x).oneCell' = true) (hh : ∀ x, (h x).oneCell' = true) (ht : P.underlying t = some (.slice e)) (hi : P.info? e = some i) (hz : i.zero = some z)
    (hsize : i.size = 3) (hby : i.bytes = by_) (hzs : z.cells.size = 3) {base : Nat} {v : Value} {l : List α} (hv : OwnThree f g h e w base v l) (hbase : base ≤ w.heap.size) (x : α) (hm : l.length + 1 ≤ maxLen) (hroom : (l.length + 1) * by_ ≤ 140737488355328) :
    ∃ v' W', (Builtin.append_ #[t, t] ty #[v, .slice (some ⟨w.heap.size, 0, none⟩) 1 1]).run P (w.alloc (.cells #[f x, g x, h x] e)) = .ok v' W' ∧ OwnThree f g h e W' base v' (l ++ [x]) ∧ w.grownBy W' v.ownBlock ∧ (v'.ownBlock = v.ownBlock ∨ v'.ownBlock = some (w.heap.size + 1)) := by
  have h1 : OwnThree f g h e (w.alloc (.cells #[f x, g x, h x] e)) base v l := hv.below ((Below.refl _ _).alloc (Nat.le_refl _) _)
  have hl := (OwnThree.lit (f := f) (g := g) (h := h) e w w.heap.size #[f x, g x, h x] [x] 1 (Nat.le_refl _) rfl (by simp only [maxLen]; omega) rfl).three
  obtain ⟨v', W', hrun, h2, h3, h5⟩ := h1.appendAt ty hf hg hh ht hi hz hsize hby hzs (by simp; omega) hl (by simpa using hm) (by simpa using hroom)
  exact ⟨v', W', hrun, h2, (World.grownBy_alloc w _ _).trans h3, by simpa using h5⟩
end
end Go.Proofs.Ytlcmnemneghohaa.Law
