/-
  What a call that writes only bytes of its own leaves as it was: all below a block, and each block that holds no bytes.
-/
import Derived.Test.YtffehnojcajhiaaWireLeaf
namespace Go.Proofs.Ytffehnojcajhiaa.Wire
open Go Go.RowKit Go.Proofs.Ytffehnojcajhiaa.Law

def Apt (B : Nat) (w W : World) : Prop := Below B w W ∧ ∀ (k : Nat) (cs : Array Value) (t : TypeId) (fr : Nat × Nat), w.heap[k]? = some (Obj.cells cs t fr) → t ≠ 5 → W.heap[k]? = some (Obj.cells cs t fr)

theorem Apt.low {B : Nat} {w W : World} (h : Apt B w W) : Below B w W := h.1
theorem Apt.size {B : Nat} {w W : World} (h : Apt B w W) : w.heap.size ≤ W.heap.size := h.1.size
theorem Apt.refl (B : Nat) (w : World) : Apt B w w := ⟨Below.refl _ _, fun _ _ _ _ h _ => h⟩
theorem Apt.trans {B : Nat} {a b c : World} (h : Apt B a b) (k : Apt B b c) : Apt B a c := ⟨h.1.trans k.1, fun i cs t fr hi ht => k.2 i cs t fr (h.2 i cs t fr hi ht) ht⟩
theorem Apt.mono {B C : Nat} {w W : World} (h : Apt B w W) (hC : C ≤ B) : Apt C w W := ⟨h.1.mono hC, h.2⟩
theorem Apt.drew {B : Nat} {a w : World} (h : Apt B a w) : Apt B a w.drew := ⟨h.1.drew, h.2⟩
theorem lt_of_some {w : World} {k : Nat} {o : Obj} (h : w.heap[k]? = some o) : k < w.heap.size := by
  rcases Nat.lt_or_ge k w.heap.size with h1 | h1
  · exact h1
  · rw [Array.getElem?_eq_none h1] at h; cases h
theorem Apt.of_below {B : Nat} {w W : World} (h : Below w.heap.size w W) (hB : B ≤ w.heap.size) : Apt B w W :=
  ⟨h.mono hB, fun k _ _ _ hk _ => (h.block k (lt_of_some hk)).trans hk⟩
theorem Apt.then_below {B : Nat} {a w W : World} (h : Apt B a w) (hb : Below w.heap.size w W) (hB : B ≤ w.heap.size) : Apt B a W := h.trans (Apt.of_below hb hB)
theorem Apt.alloc {B : Nat} {a w : World} (h : Apt B a w) (hB : B ≤ w.heap.size) (o : Obj) : Apt B a (w.alloc o) := h.then_below ((Below.refl _ _).alloc (Nat.le_refl _) o) hB
theorem Apt.grown {B base : Nat} {a w w' : World} {v : Value} {xs : List Nat} (h : Apt B a w) (hg : w.grownBy w' v.ownBlock) (hown : OwnB w base 5 v xs) (hb : B ≤ base) (hs : B ≤ w.heap.size) : Apt B a w' := by
  refine h.trans ⟨below_append (Below.refl _ _) hg hown hb hs, fun k cs t fr hk ht => ?_⟩
  refine (hg.block k (lt_of_some hk) (fun e => ht ?_)).trans hk
  rcases hown.1.2 with ⟨rfl, _⟩ | ⟨g, cap, cur, rfl, _, hgc, _⟩
  · cases e
  · simp only [Value.ownBlock, Option.some.injEq] at e
    subst e
    rw [hk] at hgc
    simp only [Option.some.injEq, Obj.cells.injEq] at hgc
    exact hgc.2.1

/-- An item that lies in a block of its own. -/
def Boxed4 (W : World) (b : Nat) (x : Item) (u : Value) : Prop := W.heap[b]? = some (Obj.cells #[.int .i64 x.kind, .int .i64 x.n, .string x.s, u] 71)
theorem Boxed4.new (w : World) (x : Item) (u : Value) : Boxed4 (w.alloc (.cells #[.int .i64 x.kind, .int .i64 x.n, .string x.s, u] 71)) w.heap.size x u := heap_alloc_new w _
theorem Boxed4.apt {B b : Nat} {w W : World} {x : Item} {u : Value} (h : Boxed4 w b x u) (hA : Apt B w W) : Boxed4 W b x u := hA.2 b _ _ _ h (by decide)
theorem Boxed4.cells {b : Nat} {w : World} {x : Item} {u : Value} (h : Boxed4 w b x u) :
    w.cell? ⟨b, 0, none⟩ = some (.int .i64 x.kind) ∧ w.cell? ⟨b, 1, none⟩ = some (.int .i64 x.n) ∧ w.cell? ⟨b, 2, none⟩ = some (.string x.s) ∧ w.cell? ⟨b, 3, none⟩ = some u := by
  unfold Boxed4 at h
  refine ⟨?_, ?_, ?_, ?_⟩ <;> simp [World.cell?, h]

end Go.Proofs.Ytffehnojcajhiaa.Wire
