/-
  A function that enters ranges over functions in the rounds of a loop: each leaves its mark; what is owed at the end.
-/
import Derived.Test.YtbgmhjcccabmmaaGraphReaches
import Derived.Test.YtbgmhjcccabmmaaGraphKnown
import Derived.Test.YtbgmhjcccabmmaaGraphRefReach
namespace Go.Proofs.Ytbgmhjcccabmmaa.Graph
open Go Go.RowKit Go.Shelf Go.Lib Go.Proofs.Ytbgmhjcccabmmaa.Law

abbrev markOf (r : Nat) : Deferred := { target := .collected r, args := #[] }
/-- The marks' blocks hold nothing. -/
structure Marks (rs : List Nat) (lo : Nat) (W : World) : Prop where
  nodup : rs.Nodup
  at_ : ∀ r ∈ rs, lo ≤ r ∧ W.heap[r]? = some (.deferred (some []))
theorem Marks.nil (lo : Nat) (W : World) : Marks [] lo W := ⟨List.nodup_nil, fun r h => by cases h⟩
theorem Marks.keep {rs : List Nat} {lo : Nat} {W W' : World} (h : Marks rs lo W) (hk : ∀ r ∈ rs, W'.heap[r]? = W.heap[r]?) : Marks rs lo W' := ⟨h.nodup, fun r hr => ⟨(h.at_ r hr).1, (hk r hr).trans (h.at_ r hr).2⟩⟩
theorem Marks.lt {rs : List Nat} {lo : Nat} {W : World} (h : Marks rs lo W) {r : Nat} (hr : r ∈ rs) : r < W.heap.size := (Array.getElem?_eq_some_iff.1 (h.at_ r hr).2).1
theorem Marks.cons {rs : List Nat} {lo : Nat} {W : World} (h : Marks rs lo W) {r : Nat} (hr : r ∉ rs) (hl : lo ≤ r) (hW : W.heap[r]? = some (.deferred (some []))) : Marks (r :: rs) lo W :=
  ⟨List.nodup_cons.2 ⟨hr, h.nodup⟩, fun j hj => by
    rcases List.mem_cons.1 hj with rfl | hj
    · exact ⟨hl, hW⟩
    · exact h.at_ j hj⟩
theorem Marks.cell {rs : List Nat} {lo : Nat} {W W' : World} (h : Marks rs lo W) {row : Option Nat} (hg : W.grownBy W' row) (hr : ∀ b, row = some b → ∃ o : Obj, W.heap[b]? = some o ∧ o.isCells = true) : Marks rs lo W' :=
  h.keep fun r hr' => hg.block r (h.lt hr') fun e => by
    obtain ⟨o, ho, hc⟩ := hr r e.symm
    rw [(h.at_ r hr').2] at ho
    cases ho
    cases hc

/-- All marks are taken; what lay else lies there yet. -/
theorem leaves_marks {F : Fence} {n : Nat} {P : Program} {fn : Func} {tmps : Array Value} {R : Ending → World → Prop} : ∀ (rs : List Nat) {lo : Nat} {W : World}, Marks rs lo W →
    (∀ W', Below lo W W' → (∀ k, k ∉ rs → W'.heap[k]? = W.heap[k]?) → ∃ v, (results fn tmps).run P W' = .ok v W' ∧ R (.returned v) W') → LeavesInM F n P fn tmps R (rs.map markOf) .returning W
  | [], lo, W, _, h => h W (Below.refl _ _) fun _ _ => rfl
  | r :: rs, lo, W, hm, h => by
    have hr := hm.at_ r List.mem_cons_self
    refine ⟨by simp, .inl ⟨r, _, rfl, run_takeDeferred hr.2, ?_⟩⟩
    have hg := grownBy_putObj' W r (.deferred none)
    have hnd := List.nodup_cons.1 hm.nodup
    refine leaves_marks rs (lo := lo) ⟨hnd.2, fun j hj => ⟨(hm.at_ j (List.mem_cons_of_mem _ hj)).1, ?_⟩⟩ fun W' hb hk => h W' ?_ fun k hk' => ?_
    · exact (World.putObj_heap_other (fun e => hnd.1 (by rw [← e]; exact hj))).trans (hm.at_ j (List.mem_cons_of_mem _ hj)).2
    · have h1 : Below lo W (W.putObj r (.deferred none)) := (Below.refl lo W).grown hg (by have := hm.lt List.mem_cons_self; omega) fun k e => by cases e; exact hr.1
      exact h1.trans hb
    · exact (hk k fun e => hk' (List.mem_cons_of_mem _ e)).trans (World.putObj_heap_other fun e => hk' (by rw [e]; exact List.mem_cons_self))

/-- A counter in a box, as a measure reads it. -/
def boxN (a : Act) (s : Nat) (w : World) : Nat := match a.tmps.getD s undef with
  | .pointer (some p) => match w.cell? p with
    | some (.int _ z) => z.toNat
    | _ => 0
  | _ => 0

theorem rB_le {l : List Opr} (hg : goodG l) {a b : Nat} (h : rB l a b = true) : a ≤ b := Rch.le hg (bP_iff.1 h)
theorem rB_trans {l : List Opr} {a b c : Nat} (h : rB l a b = true) (k : rB l b c = true) : rB l a c = true := bP_true ((bP_iff.1 h).trans (bP_iff.1 k))
theorem rB_use {l : List Opr} {a : Nat} {p : Nat × Nat} (hp : p ∈ usesL l (a : Int)) : rB l a p.1 = true := bP_true (Rch.head.2 (.inr ⟨p, hp, .refl _⟩))
theorem boxN_at {W : World} {p k : Nat} {t : TypeId} (h : W.heap[p]? = some (.cells #[.int .i64 (k : Nat)] t)) (a : Act) (s : Nat) (ha : a.tmps.getD s undef = .pointer (some ⟨p, 0, none⟩)) : boxN a s W = k := by
  unfold boxN
  rw [ha]
  simp only [(box1 h).1]
  omega
theorem ret_box {W : World} {b : Nat} {t : TypeId} {x : Bool} (h : W.heap[b]? = some (.cells #[.bool x] t)) : W.cell? ⟨b, 0, none⟩ = some (.bool x) := (box1 h).1


/-- What lies at the head of each round. -/
structure StO (w0 W : World) (l : List Opr) (R X n p k : Nat) (rs : List Nat) (B : Nat → Nat) : Prop where
  low : Below w0.heap.size w0 W
  xb : W.heap[X]? = some (.cells #[.slice (some ⟨R, 0, none⟩) n n] 40)
  wy : Ways W w0.heap.size R n 0 B (rB l)
  pb : W.heap[p]? = some (.cells #[.int .i64 (k : Nat)] 3)
  far : w0.heap.size ≤ X ∧ w0.heap.size ≤ p
  marks : Marks rs w0.heap.size W

/-- What turns no cells, and no mark, leaves it. -/
theorem StO.grown {w0 W W' : World} {l : List Opr} {R X n p k D : Nat} {rs : List Nat} {B : Nat → Nat} (h : StO w0 W l R X n p k rs B) (hD : w0.heap.size ≤ D) (hrs : ∀ r ∈ rs, r < D) {row : Option Nat} (hg : W.grownBy W' row)
    (hr : ∀ r, row = some r → D ≤ r ∧ ∃ o : Obj, W.heap[r]? = some o ∧ o.isCells = false) : StO w0 W' l R X n p k rs B := by
  have key : ∀ {j : Nat} {cs : Array Value} {t : TypeId}, W.heap[j]? = some (.cells cs t) → W'.heap[j]? = W.heap[j]? := fun {j cs t} hj => hg.block j (lt_of_some hj) fun e => by
    obtain ⟨_, o, ho, hc⟩ := hr _ e.symm
    rw [hj] at ho
    cases ho
    cases hc
  exact ⟨h.low.grown hg h.low.size fun k e => Nat.le_trans hD (hr k e).1, (key h.xb).trans h.xb, h.wy.grown hg fun r e => (hr r e).2, (key h.pb).trans h.pb, h.far, h.marks.keep fun r hr' => hg.block r (h.marks.lt hr') fun e => by
    have := (hr r e.symm).1
    have := hrs r hr'
    omega⟩
/-- Memory is made. -/
theorem StO.below {w0 W W' : World} {l : List Opr} {R X n p k : Nat} {rs : List Nat} {B : Nat → Nat} (h : StO w0 W l R X n p k rs B) (hb : Below W.heap.size W W') : StO w0 W' l R X n p k rs B :=
  h.grown (D := W.heap.size) h.low.size (fun _ hr => h.marks.lt hr) (grown_of_low hb (Nat.le_refl _) none) fun r e => by cases e
/-- The next round's box. -/
theorem StO.next {w0 W W' : World} {l : List Opr} {R X n p p' k k' D : Nat} {rs : List Nat} {B : Nat → Nat} (h : StO w0 W l R X n p k rs B) (hD : D ∉ rs) (hDl : w0.heap.size ≤ D) (hDW : W.heap[D]? = some (.deferred (some []))) (hb : Below W.heap.size W W') (hp : W.heap.size ≤ p') (hpb : W'.heap[p']? = some (.cells #[.int .i64 (k' : Nat)] 3)) : StO w0 W' l R X n p' k' (D :: rs) B := by
  have h' := h.below hb
  exact ⟨h'.low, h'.xb, h'.wy, hpb, ⟨h'.far.1, by have := h.low.size; omega⟩, h'.marks.cons hD hDl ((hb.block D (Array.getElem?_eq_some_iff.1 hDW).1).trans hDW)⟩



/-- One box of the law's own is written. -/
theorem StO.touch {w0 W W' : World} {l : List Opr} {R X n p k j : Nat} {rs : List Nat} {B : Nat → Nat} (h : StO w0 W l R X n p k rs B) (hg : W.grownBy W' (some j)) (hj : w0.heap.size ≤ j) (hX : X ≠ j) (hp : p ≠ j) (hR : R ≠ j) (hB : ∀ i, i < n → B i ≠ j) (hrs : j ∉ rs) : StO w0 W' l R X n p k rs B := by
  have key : ∀ {i : Nat}, i < W.heap.size → i ≠ j → W'.heap[i]? = W.heap[i]? := fun hi hne => hg.block _ hi (by simp only [ne_eq, Option.some.injEq]; exact hne)
  exact ⟨h.low.grown hg h.low.size fun k e => by cases e; exact hj, (key (lt_of_some h.xb) hX).trans h.xb, h.wy.keep (key h.wy.lt.2 hR) fun i h1 h2 => key (h.wy.ltB h1 h2).2 (hB i h2), (key (lt_of_some h.pb) hp).trans h.pb, h.far, h.marks.keep fun r hr => key (h.marks.lt hr) fun e => hrs (e ▸ hr)⟩

end Go.Proofs.Ytbgmhjcccabmmaa.Graph
