/-
  A slice value that reads as items, in blocks of a given set; carried from world to world.
-/
import Derived.Test.YtffehnojcajhiaaWireMath
import Derived.Test.YtffehnojcajhiaaOps
namespace Go.Proofs.Ytffehnojcajhiaa.Wire
open Go Go.RowKit Go.Proofs.Ytffehnojcajhiaa.Law

/-- The four cells of an item. -/
def Cells4 (W : World) (b o : Nat) (x : Item) (u : Value) : Prop :=
  W.cell? ⟨b, o, none⟩ = some (.int .i64 x.kind) ∧ W.cell? ⟨b, o + 1, none⟩ = some (.int .i64 x.n) ∧ W.cell? ⟨b, o + 2, none⟩ = some (.string x.s) ∧ W.cell? ⟨b, o + 3, none⟩ = some u

/-- The slice value reads as these items; all blocks are in S. -/
inductive Items (S : Nat → Prop) (W : World) : Value → List Item → Prop
  | nil (A : Option Addr) (cap : Nat) (l : List Item) (hA : A = none → cap = 0) (hl : l = []) : Items S W (.slice A 0 cap) l
  | row (b off len cap : Nat) (l : List Item) (u : Nat → Value) (hl : l.length = len) (hcap : len ≤ cap) (hS : 0 < len → S b)
      (hcell : ∀ j x, l[j]? = some x → Cells4 W b (off + j * 4) x (u j)) (hk : ∀ j x, l[j]? = some x → Items S W (u j) x.kids) : Items S W (.slice (some ⟨b, off, none⟩) len cap) l

theorem Items.form {S : Nat → Prop} {W : World} {v : Value} {l : List Item} (h : Items S W v l) : ∃ A cap, v = .slice A l.length cap ∧ l.length ≤ cap := by
  cases h with
  | nil A cap l hA hl => subst hl; exact ⟨A, cap, rfl, Nat.zero_le _⟩
  | row b off len cap l u hl hcap => subst hl; exact ⟨_, cap, rfl, hcap⟩
theorem Items.at {S : Nat → Prop} {W : World} {A : Option Addr} {len cap : Nat} {l : List Item} (h : Items S W (.slice A len cap) l) (hp : 0 < len) :
    ∃ b off, A = some ⟨b, off, none⟩ ∧ S b ∧ ∀ j x, l[j]? = some x → ∃ u, Cells4 W b (off + j * 4) x u ∧ Items S W u x.kids := by
  cases h with
  | nil A cap l hA hl => omega
  | row b off len cap l u hl hcap hS hcell hk => exact ⟨b, off, rfl, hS hp, fun j x hx => ⟨u j, hcell j x hx, hk j x hx⟩⟩
theorem Items.length {S : Nat → Prop} {W : World} {A : Option Addr} {len cap : Nat} {l : List Item} (h : Items S W (.slice A len cap) l) : l.length = len ∧ len ≤ cap := by
  cases h with
  | nil A cap l hA hl => subst hl; exact ⟨rfl, Nat.zero_le _⟩
  | row b off len cap l u hl hcap => exact ⟨hl, hcap⟩

theorem Cells4.keep {W W' : World} {b o : Nat} {x : Item} {u : Value} (h : Cells4 W b o x u) (hb : W'.heap[b]? = W.heap[b]?) : Cells4 W' b o x u := by
  have e : ∀ j, W'.cell? ⟨b, j, none⟩ = W.cell? ⟨b, j, none⟩ := fun j => by simp only [World.cell?, hb]
  exact ⟨(e _).trans h.1, (e _).trans h.2.1, (e _).trans h.2.2.1, (e _).trans h.2.2.2⟩
theorem Items.keep {S T : Nat → Prop} {W W' : World} (hb : ∀ b, S b → W'.heap[b]? = W.heap[b]?) (hST : ∀ b, S b → T b) {v : Value} {l : List Item} (h : Items S W v l) : Items T W' v l := by
  induction h with
  | nil A cap l hA hl => exact .nil A cap l hA hl
  | row b off len cap l u hl hcap hS hcell hk ih =>
    refine .row b off len cap l u hl hcap (fun h => hST b (hS h)) (fun j x hx => ?_) (fun j x hx => ih j x hx)
    have hp : 0 < len := by
      have := (List.getElem?_eq_some_iff.1 hx).1
      omega
    exact (hcell j x hx).keep (hb b (hS hp))
theorem Items.mono {S T : Nat → Prop} {W : World} (hST : ∀ b, S b → T b) {v : Value} {l : List Item} (h : Items S W v l) : Items T W v l := h.keep (fun _ _ => rfl) hST

/-- Items in old blocks. -/
abbrev Old (n : Nat) (W : World) (v : Value) (l : List Item) : Prop := Items (fun b => b < n) W v l

theorem Items.low {n : Nat} {A B : World} (h : Below n A B) {v : Value} {l : List Item} (hI : Old n A v l) : Old n B v l := hI.keep (fun b hb => h.block b hb) (fun _ h => h)
theorem Items.more {n m : Nat} {W : World} (hn : n ≤ m) {v : Value} {l : List Item} (hI : Old n W v l) : Old m W v l := hI.mono (fun _ h => Nat.lt_of_lt_of_le h hn)
theorem Items.on {A B : World} (h : Below A.heap.size A B) {v : Value} {l : List Item} (hI : Old A.heap.size A v l) : Old B.heap.size B v l := Items.more h.size (Items.low h hI)
theorem Items.drew {S : Nat → Prop} {W : World} {v : Value} {l : List Item} (h : Items S W v l) : Items S W.drew v l := Items.keep (W := W) (W' := W.drew) (fun _ _ => rfl) (fun _ h => h) h

end Go.Proofs.Ytffehnojcajhiaa.Wire
