/-
  What a call leaves as it was that writes only blocks of certain types of its own: all below a block, and each block of another type. Of whatever program.
-/
import Derived.Test.YtnhkpemajknfnaaGreatDoorSeg
namespace Go.Proofs.YtnhkpemajknfnaaGreatDoor.Law
open Go Go.RowKit

def Frm (S : TypeId → Bool) (B : Nat) (w W : World) : Prop :=
  Below B w W ∧ ∀ (k : Nat) (cs : Array Value) (t : TypeId) (fr : Nat × Nat), w.heap[k]? = some (Obj.cells cs t fr) → S t = false → W.heap[k]? = some (Obj.cells cs t fr)

section
variable {S : TypeId → Bool} {B : Nat} {a b c w W : World}

theorem lt_of_at {w : World} {k : Nat} {o : Obj} (h : w.heap[k]? = some o) : k < w.heap.size := (Array.getElem?_eq_some_iff.1 h).1
theorem Frm.low (h : Frm S B w W) : Below B w W := h.1
theorem Frm.size (h : Frm S B w W) : w.heap.size ≤ W.heap.size := h.1.size
theorem Frm.refl (S : TypeId → Bool) (B : Nat) (w : World) : Frm S B w w := ⟨Below.refl _ _, fun _ _ _ _ h _ => h⟩
theorem Frm.trans (h : Frm S B a b) (k : Frm S B b c) : Frm S B a c := ⟨h.1.trans k.1, fun i cs t fr hi ht => k.2 i cs t fr (h.2 i cs t fr hi ht) ht⟩
theorem Frm.mono {C : Nat} (h : Frm S B w W) (hC : C ≤ B) : Frm S C w W := ⟨h.1.mono hC, h.2⟩
theorem Frm.more {S' : TypeId → Bool} (h : Frm S B w W) (hS : ∀ t, S' t = false → S t = false) : Frm S' B w W := ⟨h.1, fun k cs t fr hk ht => h.2 k cs t fr hk (hS t ht)⟩
theorem Frm.drew (h : Frm S B a w) : Frm S B a w.drew := ⟨h.1.drew, h.2⟩
theorem Frm.of_below (h : Below w.heap.size w W) (hB : B ≤ w.heap.size) : Frm S B w W :=
  ⟨h.mono hB, fun k _ _ _ hk _ => (h.block k (lt_of_at hk)).trans hk⟩
theorem Frm.then_below (h : Frm S B a w) (hb : Below w.heap.size w W) (hB : B ≤ w.heap.size) : Frm S B a W := h.trans (Frm.of_below hb hB)
theorem Frm.alloc (h : Frm S B a w) (hB : B ≤ w.heap.size) (o : Obj) : Frm S B a (w.alloc o) := h.then_below ((Below.refl _ _).alloc (Nat.le_refl _) o) hB
/-- Only a block of such a type may have turned. -/
theorem Frm.grown {r : Option Nat} (h : Frm S B a w) (hg : w.grownBy W r) (hr : ∀ k, r = some k → B ≤ k ∧ ∃ cs t fr, w.heap[k]? = some (.cells cs t fr) ∧ S t = true) (hs : B ≤ w.heap.size) : Frm S B a W := by
  refine h.trans ⟨(Below.refl _ _).grown hg hs (fun k hk => (hr k hk).1), fun k cs t fr hk ht => (hg.block k (lt_of_at hk) (fun e => ?_)).trans hk⟩
  obtain ⟨_, cs', t', fr', h1, h2⟩ := hr k e.symm
  rw [hk] at h1
  simp only [Option.some.injEq, Obj.cells.injEq] at h1
  obtain ⟨_, rfl, _⟩ := h1
  rw [ht] at h2
  cases h2
theorem Frm.grown_seg {base size n : Nat} {e : TypeId} {v : Value} {xs : List Value} (h : Frm S B a w) (hg : w.grownBy W v.ownBlock) (hO : Seg w base e size v n xs) (he : S e = true) (hb : B ≤ base) (hs : B ≤ w.heap.size) : Frm S B a W :=
  h.grown hg (fun k hk => by
    obtain ⟨h1, _, cur, h2⟩ := hO.own k hk
    exact ⟨by omega, cur, e, _, h2, he⟩) hs
theorem Frm.grown_row {base size n : Nat} {e : TypeId} {v : Value} {xs : List Value} (h : Frm S B a w) (hg : w.grownBy W v.ownBlock) (hO : w.ownsRow base e size v n xs) (he : S e = true) (hb : B ≤ base) (hs : B ≤ w.heap.size) : Frm S B a W :=
  h.grown hg (fun k hk => by
    rcases hO.2 with ⟨rfl, _⟩ | ⟨g, cap, cur, rfl, hbg, hh, _⟩
    · cases hk
    · simp only [Value.ownBlock, Option.some.injEq] at hk
      subst hk
      exact ⟨by omega, cur, e, _, hh, he⟩) hs
theorem grown_set (W : World) (k i : Nat) (v : Value) : W.grownBy (W.setCell ⟨k, i, none⟩ v) (some k) :=
  ⟨rfl, rfl, rfl, by simp [World.setCell], fun j _ hj => Below.heap_setCell _ _ _ j (fun e => hj (by rw [e]))⟩
theorem Frm.set {k i : Nat} {cs : Array Value} {t : TypeId} {fr : Nat × Nat} (h : Frm S B a w) (hk : w.heap[k]? = some (.cells cs t fr)) (ht : S t = true) (hb : B ≤ k) (hs : B ≤ w.heap.size) (v : Value) : Frm S B a (w.setCell ⟨k, i, none⟩ v) :=
  h.grown (grown_set w k i v) (fun j hj => by
    simp only [Option.some.injEq] at hj
    subst hj
    exact ⟨hb, cs, t, fr, hk, ht⟩) hs
theorem Seg.frm {base size n : Nat} {e : TypeId} {v : Value} {xs : List Value} (h : Seg w base e size v n xs) (hF : Frm S B w W) (he : S e = false) : Seg W base e size v n xs :=
  h.keep fun g hg => by
    obtain ⟨_, _, cur, h2⟩ := h.own g hg
    exact (hF.2 g _ _ _ h2 he).trans h2.symm
theorem row_frm {base size n : Nat} {e : TypeId} {v : Value} {xs : List Value} (h : w.ownsRow base e size v n xs) (hF : Frm S B w W) (he : S e = false) : W.ownsRow base e size v n xs := by
  refine ⟨h.1, ?_⟩
  rcases h.2 with h0 | ⟨g, cap, cur, rfl, h1, h2, h3⟩
  · exact .inl h0
  · exact .inr ⟨g, cap, cur, rfl, h1, hF.2 g _ _ _ h2 he, h3⟩
theorem heap_set {w : World} {b : Nat} {cs : Array Value} {t : TypeId} {z : Nat × Nat} (h : w.heap[b]? = some (.cells cs t z)) (i : Nat) (v : Value) : (w.setCell ⟨b, i, none⟩ v).heap[b]? = some (.cells (cs.setIfInBounds i v) t z) := by
  simp [World.setCell, Array.getElem?_modify, h]
end

end Go.Proofs.YtnhkpemajknfnaaGreatDoor.Law
