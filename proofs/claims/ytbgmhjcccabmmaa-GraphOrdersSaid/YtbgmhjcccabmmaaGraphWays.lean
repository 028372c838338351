/-
  Ways in memory: a row of rows of Bools, all of it of the call's own; what makes, stores into and keeps it.
-/
import Derived.Test.YtbgmhjcccabmmaaGraphReachMath
import Derived.Test.YtbgmhjcccabmmaaGraphBack
import Derived.Test.YtbgmhjcccabmmaaRowOf
namespace Go.Proofs.Ytbgmhjcccabmmaa.Graph
open Go Go.RowKit Go.Proofs.Ytbgmhjcccabmmaa.Law

/-- A row of n, or none yet. -/
def oV (n : Nat) : Option Nat → Value
  | none => .slice none 0 0
  | some b => .slice (some ⟨b, 0, none⟩) n n
/-- The rows from lo on are made. -/
def outL (n lo : Nat) (B : Nat → Nat) : List (Option Nat) := (List.range n).map fun i => if lo ≤ i then some (B i) else none
theorem outL_get {n lo : Nat} {B : Nat → Nat} {i : Nat} (hi : i < n) : (outL n lo B)[i]? = some (if lo ≤ i then some (B i) else none) := by
  rw [outL, List.getElem?_map, List.getElem?_range hi]; rfl
theorem outL_length (n lo : Nat) (B : Nat → Nat) : (outL n lo B).length = n := by rw [outL, List.length_map, List.length_range]
def inL (n : Nat) (F : Nat → Bool) : List Bool := (List.range n).map F
theorem inL_get {n : Nat} {F : Nat → Bool} {i : Nat} (hi : i < n) : (inL n F)[i]? = some (F i) := by
  rw [inL, List.getElem?_map, List.getElem?_range hi]; rfl
theorem inL_length (n : Nat) (F : Nat → Bool) : (inL n F).length = n := by rw [inL, List.length_map, List.length_range]

/-- The rows from lo on lie in blocks of their own, and have what F says. -/
structure Ways (W : World) (base R n lo : Nat) (B : Nat → Nat) (F : Nat → Nat → Bool) : Prop where
  row : OwnRow (oV n) 42 W base (.slice (some ⟨R, 0, none⟩) n n) (outL n lo B)
  rows : ∀ i, lo ≤ i → i < n → OwnRow Value.bool 4 W base (.slice (some ⟨B i, 0, none⟩) n n) (inL n (F i))
  far : ∀ i, lo ≤ i → i < n → B i ≠ R
  apart : ∀ i j, lo ≤ i → i < n → lo ≤ j → j < n → B i = B j → i = j

theorem Ways.lt {W : World} {base R n lo : Nat} {B : Nat → Nat} {F : Nat → Nat → Bool} (h : Ways W base R n lo B F) : base ≤ R ∧ R < W.heap.size := h.row.own rfl
theorem Ways.ltB {W : World} {base R n lo : Nat} {B : Nat → Nat} {F : Nat → Nat → Bool} (h : Ways W base R n lo B F) {i : Nat} (h1 : lo ≤ i) (h2 : i < n) : base ≤ B i ∧ B i < W.heap.size := (h.rows i h1 h2).own rfl
theorem Ways.cellO {W : World} {base R n lo : Nat} {B : Nat → Nat} {F : Nat → Nat → Bool} (h : Ways W base R n lo B F) {i : Nat} (hi : i < n) : W.cell? ⟨R, i, none⟩ = some (oV n (if lo ≤ i then some (B i) else none)) ∧ W.frozen? ⟨R, i, none⟩ = false :=
  h.row.cell (outL_get hi)
theorem Ways.cellY {W : World} {base R n lo : Nat} {B : Nat → Nat} {F : Nat → Nat → Bool} (h : Ways W base R n lo B F) {i : Nat} (h1 : lo ≤ i) (hi : i < n) : W.cell? ⟨R, i, none⟩ = some (.slice (some ⟨B i, 0, none⟩) n n) := by
  have := (h.cellO hi).1
  rwa [if_pos h1] at this
theorem Ways.cellI {W : World} {base R n lo : Nat} {B : Nat → Nat} {F : Nat → Nat → Bool} (h : Ways W base R n lo B F) {i j : Nat} (h1 : lo ≤ i) (hi : i < n) (hj : j < n) : W.cell? ⟨B i, j, none⟩ = some (.bool (F i j)) ∧ W.frozen? ⟨B i, j, none⟩ = false :=
  (h.rows i h1 hi).cell (inL_get hj)
theorem Ways.congr {W : World} {base R n lo : Nat} {B : Nat → Nat} {F F' : Nat → Nat → Bool} (h : Ways W base R n lo B F) (he : ∀ i j, lo ≤ i → i < n → j < n → F i j = F' i j) : Ways W base R n lo B F' :=
  ⟨h.row, fun i h1 h2 => by
    have e : inL n (F' i) = inL n (F i) := List.map_congr_left fun j hj => (he i j h1 h2 (List.mem_range.1 hj)).symm
    rw [e]
    exact h.rows i h1 h2, h.far, h.apart⟩
theorem Ways.keep {W W' : World} {base R n lo : Nat} {B : Nat → Nat} {F : Nat → Nat → Bool} (h : Ways W base R n lo B F) (hR : W'.heap[R]? = W.heap[R]?) (hB : ∀ i, lo ≤ i → i < n → W'.heap[B i]? = W.heap[B i]?) : Ways W' base R n lo B F :=
  ⟨h.row.keep (fun g hg => by obtain rfl : R = g := by simpa [Value.ownBlock] using hg
                              exact hR),
   fun i h1 h2 => (h.rows i h1 h2).keep (fun g hg => by obtain rfl : B i = g := by simpa [Value.ownBlock] using hg
                                                        exact hB i h1 h2), h.far, h.apart⟩
theorem Ways.below {W W' : World} {base R n lo : Nat} {B : Nat → Nat} {F : Nat → Nat → Bool} (h : Ways W base R n lo B F) (hb : Below W.heap.size W W') : Ways W' base R n lo B F :=
  h.keep (hb.block _ h.lt.2) fun _ h1 h2 => hb.block _ (h.ltB h1 h2).2
theorem Ways.drewN {W : World} {base R n lo : Nat} {B : Nat → Nat} {F : Nat → Nat → Bool} (h : Ways W base R n lo B F) (k : Nat) : Ways (W.drewN k) base R n lo B F := h.keep rfl fun _ _ _ => rfl
theorem Ways.drew {W : World} {base R n lo : Nat} {B : Nat → Nat} {F : Nat → Nat → Bool} (h : Ways W base R n lo B F) : Ways W.drew base R n lo B F := h.keep rfl fun _ _ _ => rfl
/-- What turns no block of cells leaves it. -/
theorem Ways.grown {W W' : World} {base R n lo : Nat} {B : Nat → Nat} {F : Nat → Nat → Bool} (h : Ways W base R n lo B F) {row : Option Nat} (hg : W.grownBy W' row) (hr : ∀ r, row = some r → ∃ o : Obj, W.heap[r]? = some o ∧ o.isCells = false) : Ways W' base R n lo B F := by
  have key : ∀ {f : Option Nat → Value} {b : Nat} {e : TypeId} {m c : Nat} {l : List (Option Nat)}, OwnRow f e W base (.slice (some ⟨b, 0, none⟩) m c) l → row ≠ some b := fun hO e => by
    obtain ⟨o, ho, hc⟩ := hr _ e
    rcases hO.2 with ⟨hv, _⟩ | ⟨g, cap, cur, hv, _, hgb, _⟩
    · cases hv
    · simp only [Value.slice.injEq, Option.some.injEq, Addr.mk.injEq, and_true] at hv
      obtain ⟨rfl, _, _⟩ := hv
      rw [hgb] at ho
      cases ho
      cases hc
  have key2 : ∀ {b : Nat} {m c : Nat} {l : List Bool}, OwnRow Value.bool 4 W base (.slice (some ⟨b, 0, none⟩) m c) l → row ≠ some b := fun hO e => by
    obtain ⟨o, ho, hc⟩ := hr _ e
    rcases hO.2 with ⟨hv, _⟩ | ⟨g, cap, cur, hv, _, hgb, _⟩
    · cases hv
    · simp only [Value.slice.injEq, Option.some.injEq, Addr.mk.injEq, and_true] at hv
      obtain ⟨rfl, _, _⟩ := hv
      rw [hgb] at ho
      cases ho
      cases hc
  exact h.keep (hg.block _ h.lt.2 (Ne.symm (key h.row))) fun i h1 h2 => hg.block _ (h.ltB h1 h2).2 (Ne.symm (key2 (h.rows i h1 h2)))
theorem Ways.setI {W : World} {base R n lo : Nat} {B : Nat → Nat} {F : Nat → Nat → Bool} (h : Ways W base R n lo B F) {i j : Nat} (h1 : lo ≤ i) (hi : i < n) (v : Bool) :
    Ways (W.setCell ⟨B i, j, none⟩ (.bool v)) base R n lo B (fun a b => if a = i ∧ b = j then v else F a b) := by
  refine ⟨h.row.keep (fun g hg => ?_), fun a h1' h2' => ?_, h.far, h.apart⟩
  · obtain rfl : R = g := by simpa [Value.ownBlock] using hg
    exact Below.heap_setCell _ _ _ _ (Ne.symm (h.far i h1 hi))
  · by_cases ha : a = i
    · subst ha
      have := ((h.rows a h1 hi).store j v).1
      have e : inL n (fun b => if a = a ∧ b = j then v else F a b) = (inL n (F a)).set j v := by
        apply List.ext_getElem?
        intro k
        rw [List.getElem?_set]
        by_cases hk : k < n
        · rw [inL_get hk]
          by_cases hjk : j = k
          · subst hjk
            have hjl : j < (inL n (F a)).length := by rw [inL_length]; exact hk
            simp [hjl]
          · rw [if_neg hjk, inL_get hk]
            simp [Ne.symm hjk]
        · rw [List.getElem?_eq_none (by rw [inL_length]; omega), List.getElem?_eq_none (by rw [inL_length]; omega)]
          by_cases hjk : j = k
          · rw [if_pos hjk, if_neg (by rw [inL_length]; omega)]
          · rw [if_neg hjk]
      rw [e]
      exact this
    · have e : inL n (fun b => if a = i ∧ b = j then v else F a b) = inL n (F a) := List.map_congr_left fun b _ => by rw [if_neg (fun h => ha h.1)]
      rw [e]
      exact (h.rows a h1' h2').keep fun g hg => by
        obtain rfl : B a = g := by simpa [Value.ownBlock] using hg
        exact Below.heap_setCell _ _ _ _ (fun e => ha (h.apart a i h1' h2' h1 hi e))
/-- One row more ahead. -/
theorem Ways.more {W W' : World} {base R n lo b : Nat} {B : Nat → Nat} {F : Nat → Nat → Bool} (h : Ways W base R n (lo + 1) B F) (hlo : lo < n) (hb : W.heap.size ≤ b) (hg : W.grownBy W' none)
    (hO : OwnRow Value.bool 4 W' base (.slice (some ⟨b, 0, none⟩) n n) (inL n fun _ => false)) :
    Ways (W'.setCell ⟨R, lo, none⟩ (.slice (some ⟨b, 0, none⟩) n n)) base R n lo (fun i => if i = lo then b else B i) (fun i j => if i = lo then false else F i j) := by
  have hlt := h.lt
  have hltB := fun i h1 h2 => h.ltB (i := i) h1 h2
  have hbR : b ≠ R := by omega
  have h2 := h.keep (W' := W') (hg.block _ hlt.2 (by simp)) fun i h1 h2 => hg.block _ (hltB i h1 h2).2 (by simp)
  refine ⟨?_, fun i h1 hi => ?_, fun i h1 hi => ?_, fun i j h1 hi h3 hj => ?_⟩
  · have := (h2.row.store lo (some b)).1
    have e : outL n lo (fun i => if i = lo then b else B i) = (outL n (lo + 1) B).set lo (some b) := by
      apply List.ext_getElem?
      intro k
      rw [List.getElem?_set]
      by_cases hk : k < n
      · rw [outL_get hk]
        by_cases hjk : lo = k
        · subst hjk
          have hjl : lo < (outL n (lo + 1) B).length := by rw [outL_length]; exact hk
          simp [hjl]
        · rw [if_neg hjk, outL_get hk, if_neg (Ne.symm hjk)]
          by_cases hl : lo ≤ k
          · rw [if_pos hl, if_pos (by omega)]
          · rw [if_neg hl, if_neg (by omega)]
      · rw [List.getElem?_eq_none (by rw [outL_length]; omega), List.getElem?_eq_none (by rw [outL_length]; omega)]
        by_cases hjk : lo = k
        · rw [if_pos hjk, if_neg (by rw [outL_length]; omega)]
        · rw [if_neg hjk]
    rw [e]
    exact this
  · by_cases he : i = lo
    · subst he
      have e : inL n (fun j => if i = i then false else F i j) = inL n fun _ => false := List.map_congr_left fun j _ => by rw [if_pos rfl]
      show OwnRow _ _ _ _ (.slice (some ⟨if i = i then b else B i, 0, none⟩) n n) _
      rw [if_pos rfl, e]
      exact hO.keep fun g hg => by
        obtain rfl : b = g := by simpa [Value.ownBlock] using hg
        exact Below.heap_setCell _ _ _ _ hbR
    · have e : inL n (fun j => if i = lo then false else F i j) = inL n (F i) := List.map_congr_left fun j _ => by rw [if_neg he]
      show OwnRow _ _ _ _ (.slice (some ⟨if i = lo then b else B i, 0, none⟩) n n) _
      rw [if_neg he, e]
      exact (h2.rows i (by omega) hi).keep fun g hg => by
        obtain rfl : B i = g := by simpa [Value.ownBlock] using hg
        exact Below.heap_setCell _ _ _ _ (h.far i (by omega) hi)
  · show (if i = lo then b else B i) ≠ R
    by_cases he : i = lo
    · rw [if_pos he]; exact hbR
    · rw [if_neg he]; exact h.far i (by omega) hi
  · intro e
    by_cases hel : i = lo
    · by_cases hel' : j = lo
      · omega
      · rw [if_pos hel, if_neg hel'] at e
        have := (hltB j (by omega) hj).2
        omega
    · by_cases hel' : j = lo
      · rw [if_neg hel, if_pos hel'] at e
        have := (hltB i (by omega) hi).2
        omega
      · rw [if_neg hel, if_neg hel'] at e
        exact h.apart i j (by omega) hi (by omega) hj e

end Go.Proofs.Ytbgmhjcccabmmaa.Graph
