/-
  A row of items that is laid as a literal.
-/
import Derived.Test.YtffehnojcajhiaaWireRows
namespace Go.Proofs.Ytffehnojcajhiaa.Wire
open Go Go.RowKit Go.Proofs.Ytffehnojcajhiaa.Law

theorem cell_lit (w : World) (cs : Array Value) (t : TypeId) (i : Nat) (v : Value) (h : cs.toList[i]? = some v) : (w.alloc (.cells cs t)).cell? ⟨w.heap.size, i, none⟩ = some v := by
  unfold World.cell?
  rw [heap_alloc_new]
  rw [Array.getElem?_toList] at h
  exact h

/-- It reads as the items, if their lists' values do. -/
theorem lit_items {S : Nat → Prop} (w : World) (l : List Item) (val : Nat → Value) (cs : Array Value) (n b : Nat) (hb : w.heap.size = b) (hn : l.length = n) (hcs : cs.toList = flat l val) (hS : S b) (hk : ∀ j x, l[j]? = some x → Items S (w.alloc (.cells cs 71)) (val j) x.kids) :
    Items S (w.alloc (.cells cs 71)) (.slice (some ⟨b, 0, none⟩) n n) l := by
  subst hb hn
  refine .row w.heap.size 0 l.length l.length l val rfl (Nat.le_refl _) (fun _ => hS) (fun j x hx => ?_) hk
  obtain ⟨h0, h1, h2, h3⟩ := flat_get l val j x hx
  rw [← hcs] at h0 h1 h2 h3
  rw [Nat.zero_add]
  exact ⟨cell_lit w cs _ _ _ h0, cell_lit w cs _ _ _ h1, cell_lit w cs _ _ _ h2, cell_lit w cs _ _ _ h3⟩

/-- It is a row of the call's own. -/
theorem lit_own (w : World) (l : List Item) (val : Nat → Value) (cs : Array Value) (n b : Nat) (hb : w.heap.size = b) (hn : l.length = n) (hm : n ≤ 1048576) (hcs : cs.toList = flat l val) (h1 : ∀ j, j < l.length → (val j).oneCell' = true) :
    OwnR (w.alloc (.cells cs 71)) b (.slice (some ⟨b, 0, none⟩) n n) l val := by
  subst hb hn
  have hsz : cs.size = l.length * 4 := by
    have := congrArg List.length hcs
    rw [flat_length] at this
    simpa using this
  have h := World.ownsRow_lit (base := w.heap.size) (size := 4) (e := 71) w cs l.length (Nat.le_refl _) (by simp only [maxLen]; omega) hsz
  rw [hcs] at h
  exact ⟨h, h1⟩

theorem Boxed4.low {W W' : World} {b : Nat} {x : Item} {u : Value} (h : Boxed4 W b x u) (hB : Below W.heap.size W W') : Boxed4 W' b x u := (hB.block b (lt_of_some h)).trans h
theorem Boxed4.alloc {W : World} {b : Nat} {x : Item} {u : Value} (h : Boxed4 W b x u) (o : Obj) : Boxed4 (W.alloc o) b x u := h.low ((Below.refl _ _).alloc (Nat.le_refl _) o)

/-- Whatever slice that reads as items is appended onto a row of the call's own. -/
theorem run_append_read (w : World) (ty : TypeId) {S : Nat → Prop} {base : Nat} {v sv : Value} {l m : List Item} {val : Nat → Value} (hown : OwnR w base v l val) (hI : Items S w sv m)
    (hroom : (l.length + m.length) * 56 ≤ 140737488355328) (hbase : base ≤ w.heap.size) :
    ∃ v' w' val', (Builtin.append_ #[51, 51] ty #[v, sv]).run Try.prog w = .ok v' w' ∧ OwnR w' base v' (l ++ m) val' ∧ w.grownBy w' v.ownBlock ∧ (v'.ownBlock = v.ownBlock ∨ v'.ownBlock = some w.heap.size) ∧
      (∀ j, j < l.length → val' j = val j) ∧ (∀ j x, m[j]? = some x → Items S w (val' (l.length + j)) x.kids) := by
  obtain ⟨i0, hi, hz0, hz1, hz2⟩ := info_parts info_item
  cases hI with
  | nil A cap m hA hm =>
    subst hm
    cases A with
    | none =>
      obtain rfl := hA rfl
      exact ⟨v, w, val, run_append_owned_none (P := Try.prog) (w := w) base 51 ty 71 i0 4 Try.underlying51 hi v l.length (flat l val) hown.1, by simpa using hown, ⟨rfl, rfl, rfl, Nat.le_refl _, fun _ _ _ => rfl⟩, .inl rfl, fun _ _ => rfl, fun j x h => by simp at h⟩
    | some a =>
      obtain ⟨v', w', hrun, h2, h3, _, h5⟩ := run_append_own_at (P := Try.prog) w base 51 ty 71 i0 _ 4 56 Try.underlying51 hi hz0 hz1 hz2 rfl (by decide) v l.length (flat l val) hown.1 a 0 cap [] rfl (fun j u h => by simp at h) (fun u h => by simp at h) (by simp only [maxLen]; omega) (by simpa using hroom) hbase
      exact ⟨v', w', val, hrun, ⟨by simpa using h2, by simpa using hown.2⟩, h3, h5, fun _ _ => rfl, fun j x h => by simp at h⟩
  | row b off len cap m u hl hcap hS hcell hk =>
    subst hl
    have hu : ∀ j, j < m.length → (u j).oneCell' = true := fun j hj => by
      obtain ⟨A, c, h, _⟩ := (hk j _ (List.getElem?_eq_getElem hj)).form
      rw [h]; rfl
    obtain ⟨v', w', hrun, h2, h3, h4⟩ := run_append_items w ty hown b off cap hcell hu hroom hbase
    refine ⟨v', w', _, hrun, h2, h3, h4, fun j hj => by simp [hj], fun j x hx => ?_⟩
    rw [if_neg (by omega), Nat.add_sub_cancel_left]
    exact hk j x hx

end Go.Proofs.Ytffehnojcajhiaa.Wire
