/-
  As XTold's law, of a loop whose variable lies in a box (an inner function or loop uses it, or its fields are read). Of whatever program.
-/
import Derived.Test.YtkofipbkfniplaaTold
namespace Go.Proofs.Ytkofipbkfniplaa.Law
open Go Go.RowKit

variable {F : Fence} {n : Nat} {P : Program}

set_option maxHeartbeats 1000000 in
/-- The caller's law over such a contract, the loop's variable in a box that each round makes anew. -/
theorem wpIn_rangeFunc_toldH {α : Type} {g : Operand} {ps : Array Tmp} {assign body : Code} {Q : Exit → Act → World → Prop} {a : Act} {w : World}
    (hro : F.round = none) (h1 : 1 ≤ n) {gf : Nat} {lb : Array Value} (hg : a.eval g = .func (.func gf) #[] lb) (hFg : F.fn gf) (eg : ∀ args w, (callFunc gf args).run P w = .ok (.enter gf args) w)
    {encs : α → Array Value} {G : α → World → Prop} {Kp : World → World → Prop} {S Sp : List α → Prop} {N : Nat} {w0 : World} (hseq : SeqTold F (n - 1) P gf lb encs G Kp S Sp N w0)
    (hKt : ∀ {A B C : World}, Kp A B → Kp B C → Kp A C) (hKb : ∀ (W : World) (l : Nat) (o o' : Obj), w.heap.size ≤ l → W.heap[l]? = some o → o.isCells = false → o.isWalk = false → Kp W (W.putObj l o')) (hb0 : Below w0.heap.size w0 w) (hps : ∀ x, (encs x).size = ps.size)
    (I : List α → World → Prop) (Ix : Code → List α → World → Prop) (hI : OwnFrom w.heap.size I) (hIx : ∀ c, OwnFrom w.heap.size (Ix c)) (hG : ∀ x, OwnFrom w.heap.size (fun (_ : Unit) W => G x W)) (h0 : I [] w) (hKg : ∀ {A B : World}, w.heap.size ≤ A.heap.size → A.grownBy B none → Kp A B) (Ax : α → Act → World → Prop) (hAx : ∀ x a', OwnFrom w.heap.size (fun (_ : Unit) W => Ax x a' W))
    (hassign : ∀ (l : Nat) (pre : List α) (x : α) (W : World) (K : Act → World → Prop), I pre W → G x W → (∀ a' W', W.grownBy W' none → Ax x a' W' → K a' W') →
      assign.wpIn (F.inRound l) (n - 1 - 1) P (Exit.then K (fun _ _ _ => False)) { tmps := (ps.zip (encs x)).foldl (fun t (p, v) => t.setIfInBounds p v) a.tmps, defers := [] } W)
    (hbody : ∀ (l : Nat) (pre : List α) (x : α) (a' : Act) (W : World), I pre W → G x W → Ax x a' W → Sp (pre ++ [x]) → pre.length < N → body.wpIn (F.inRound l) (n - 1 - 1) P (ownPostK Kp I Ix (pre ++ [x]) W) a' W)
    (hdone : ∀ (D : Nat) (xs : List α) (W : World), w.heap.size ≤ D → S xs → I xs W → W.heap[D]? = some (.deferred (some [])) → Q .normal { a with defers := { target := .collected D, args := #[] } :: a.defers } W)
    (hstop : ∀ (D : Nat) (c : Code) (pre : List α) (W : World), w.heap.size ≤ D → Sp pre → Ix c pre W → W.heap[D]? = some (.deferred (some [])) → c.wpIn F n P Q { a with defers := { target := .collected D, args := #[] } :: a.defers } W) :
    (Code.rangeFunc g ps assign body).wpIn F n P Q a w := by
  refine wpIn_rangeFunc fun fn hfn => ?_
  rw [hro]
  -- the loop's record in each of its states, in the block behind the one for deferred calls
  obtain ⟨R, hR⟩ : ∃ R : LoopState → Option Code → Loop, R = fun st pe => { state := st, pending := pe, fn, tmps := a.tmps, params := ps, assign, body, defers := w.heap.size } := ⟨_, rfl⟩
  have hsame : ∀ {W : World} {k : Nat} {o : Obj}, k < W.heap.size → (W.putObj k o).heap[k]? = some o := fun h => World.putObj_heap_same h
  have hother : ∀ {W : World} {j k : Nat} {o : Obj}, j ≠ k → (W.putObj k o).heap[j]? = W.heap[j]? := fun h => World.putObj_heap_other h
  have hlt : ∀ {W : World} {k : Nat} {o : Obj}, W.heap[k]? = some o → k < W.heap.size := fun h => (Array.getElem?_eq_some_iff.1 h).1
  obtain ⟨W1, hW1⟩ : ∃ W1, (w.alloc (.deferred (some []))).alloc (.loop (R .ready none)) = W1 := ⟨_, rfl⟩
  have hsz : W1.heap.size = w.heap.size + 2 := by rw [← hW1]; simp
  have hL : W1.heap[w.heap.size + 1]? = some (.loop (R .ready none)) := by
    have := World.alloc_heap_new (w.alloc (.deferred (some []))) (.loop (R .ready none))
    rwa [World.size_alloc, hW1] at this
  have hD : W1.heap[w.heap.size]? = some (.deferred (some [])) := by
    rw [← hW1]; exact (Below.heap_alloc _ _ _ (by simp)).trans (World.alloc_heap_new w _)
  have hbW : Below w0.heap.size w0 W1 := by
    rw [← hW1]; exact hb0.trans ((((Below.refl _ w).alloc (Nat.le_refl _) _).alloc (by simp) _).mono hb0.size)
  refine ⟨w.heap.size + 1, [{ target := .collected w.heap.size, args := #[] }], W1, { target := .fn (.func gf) lb, args := #[.func (.yield (w.heap.size + 1)) #[] #[]] }, W1, gf,
    #[.func (.yield (w.heap.size + 1)) #[] #[]] ++ lb, W1, ?_, ?_, ?_, ?_, fun _ => h1, ?_⟩
  · rw [← hW1, hR]; exact run_enterLoop_outer _ _ _ _ _
  · simp only [resolve, hg]
    simp [go_sem]
  · intro f' hf'; simp [Target.leads] at hf'; subst hf'; exact hFg
  · simp [invoke, go_sem, eg]
  · have hcells : ∀ {A : World} {row : Option Nat}, (∀ r, row = some r → W1.heap.size ≤ r ∧ ∃ o : Obj, A.heap[r]? = some o ∧ o.isWalk = true) → (∀ r, row = some r → w.heap.size ≤ r ∧ ∃ o : Obj, A.heap[r]? = some o ∧ o.isCells = false) :=
      fun hr r e => by obtain ⟨hB, o, ho, hw⟩ := hr r e; exact ⟨by omega, o, ho, Obj.not_cells_of_walk hw⟩
    refine (hseq (w.heap.size + 1)
      (fun pre W => I pre W ∧ W.heap[w.heap.size + 1]? = some (.loop (R .ready none)) ∧ W.heap[w.heap.size]? = some (.deferred (some [])))
      (fun pre W => ∃ c, Ix c pre W ∧ W.heap[w.heap.size + 1]? = some (.loop (R .done (some c))) ∧ W.heap[w.heap.size]? = some (.deferred (some [])))
      W1 hbW ?_ ?_ ?_ ⟨by rw [← hW1]; exact hI.alloc _ (hI.alloc _ h0), hL, hD⟩).mono ?_
    · rintro s A B row ⟨i1, i2, i3⟩ hg' hr
      have hk := fun r e => (hr r e).2
      exact ⟨hI s A B row i1 hg' (hcells hr), (grownBy_keeps hg' hk i2 rfl).trans i2, (grownBy_keeps hg' hk i3 rfl).trans i3⟩
    · rintro s A B row ⟨c, i1, i2, i3⟩ hg' hr
      have hk := fun r e => (hr r e).2
      exact ⟨c, hIx c s A B row i1 hg' (hcells hr), (grownBy_keeps hg' hk i2 rfl).trans i2, (grownBy_keeps hg' hk i3 rfl).trans i3⟩
    · -- one round
      rintro pre x W0 ⟨hi0, hl0, hd0⟩ hgx0 hsp hlen
      have hy := run_yield (P := P) (args := encs x) hl0 (by rw [hR]; exact hps x)
      rw [hR] at hy
      refine ⟨fn, _, assign, body, hy, roundIn_of_wpIn hfn (hassign _ pre x W0 _ hi0 hgx0 fun a' W hgr hax => ?_)⟩
      have hnone : ∀ r : Nat, (none : Option Nat) = some r → w.heap.size ≤ r ∧ ∃ o : Obj, W0.heap[r]? = some o ∧ o.isCells = false := fun r e => by cases e
      have hl := (hgr.block _ (hlt hl0) (by simp)).trans hl0
      have hd := (hgr.block _ (hlt hd0) (by simp)).trans hd0
      have hi := hI _ _ _ none hi0 hgr hnone
      have hgx := hG x () _ _ none hgx0 hgr hnone
      have hk0 : Kp W0 W := hKg (by have := hlt hl0; omega) hgr
      refine ⟨_, run_beginRound hl (by rw [hR]), ?_⟩
      obtain ⟨V, hV⟩ : ∃ V, W.putObj (w.heap.size + 1) (.loop { R .ready none with state := .busy }) = V := ⟨_, rfl⟩
      have lV : V.heap[w.heap.size + 1]? = some (.loop { R .ready none with state := .busy }) := by rw [← hV]; exact hsame (hlt hl)
      have dV : V.heap[w.heap.size]? = some (.deferred (some [])) := by rw [← hV]; exact (hother (by omega)).trans hd
      have kV : Kp W V := by rw [← hV]; exact hKb _ _ _ _ (by omega) hl rfl rfl
      have iV : I pre V := by rw [← hV]; exact hI.putObj _ hi (by omega) hl rfl
      have gV : G x V := by rw [← hV]; exact (hG x).putObj (s := ()) _ hgx (by omega) hl rfl
      have aV : Ax x a' V := by rw [← hV]; exact (hAx x a').putObj (s := ()) _ hax (by omega) hl rfl
      rw [hV]
      refine wpIn_mono (hbody _ pre x a' V iV gV aV hsp hlen) ?_
      have fin : ∀ (j : Option Code) (U : World), KeepsOthers V U →
          (Instr.endRound (w.heap.size + 1) j).run P U = .ok (.bool j.isNone) (U.putObj (w.heap.size + 1) (.loop (R (if j.isNone then .ready else .done) j))) ∧
          U.heap[w.heap.size + 1]? = some (.loop { R .ready none with state := .busy }) ∧
          (U.putObj (w.heap.size + 1) (.loop (R (if j.isNone then .ready else .done) j))).heap[w.heap.size + 1]? = some (.loop (R (if j.isNone then .ready else .done) j)) ∧
          (U.putObj (w.heap.size + 1) (.loop (R (if j.isNone then .ready else .done) j))).heap[w.heap.size]? = some (.deferred (some [])) := by
        intro j U hk
        have hu := hk.same _ _ lV rfl
        have he := run_endRound (P := P) j hu
        rw [hR] at he ⊢
        exact ⟨he, by rw [hR] at hu; exact hu, hsame (hlt hu), (hother (by omega)).trans (hk.same _ _ dV rfl)⟩
      have out : ∀ (c : Code) (U : World), KeepsOthers V U → Ix c (pre ++ [x]) U → ∃ r W', (Instr.endRound (w.heap.size + 1) (some c)).run P U = .ok r W' ∧ (r = .bool false ∧ ∃ c, Ix c (pre ++ [x]) W' ∧ W'.heap[w.heap.size + 1]? = some (.loop (R .done (some c))) ∧ W'.heap[w.heap.size]? = some (.deferred (some []))) := by
        intro c U hk hix
        obtain ⟨hr, hu, hu2, hd2⟩ := fin (some c) U hk
        exact ⟨_, _, hr, rfl, c, (hIx c).putObj _ hix (by omega) hu rfl, hu2, hd2⟩
      intro e a3 U hp
      match e, hp with
      | .normal, ⟨hk, hkp, hi3⟩ =>
        obtain ⟨hr, hu, hu2, hd2⟩ := fin none U hk
        exact ⟨_, _, hr, .inl ⟨rfl, ⟨hI.putObj _ hi3 (by omega) hu rfl, hu2, hd2⟩, hKt hk0 (hKt (hKt kV hkp) (hKb _ _ _ _ (by omega) hu rfl rfl))⟩⟩
      | .ret, ⟨hk, hix⟩ => obtain ⟨r, W', h1, rfl, h3⟩ := out .ret U hk hix; exact ⟨_, W', h1, .inr ⟨rfl, h3⟩⟩
      | .exit id, ⟨hk, hix⟩ => obtain ⟨r, W', h1, rfl, h3⟩ := out (.exit id) U hk hix; exact ⟨_, W', h1, .inr ⟨rfl, h3⟩⟩
      | .goto t, ⟨hk, hix⟩ => obtain ⟨r, W', h1, rfl, h3⟩ := out (.goto t) U hk hix; exact ⟨_, W', h1, .inr ⟨rfl, h3⟩⟩
      | .panic _, hp => exact hp.elim
      | .outgrown, hp => exact hp.elim
    · -- behind the iterator
      rintro e W2 ⟨⟨v, rfl⟩, (⟨xs, hS, hi, hl, hd⟩ | ⟨pre, hSp, c, hi, hl, hd⟩)⟩
      · have he := run_endLoop (P := P) hl (by rw [hR]; simp)
        rw [hR] at he
        exact ⟨none, _, he, hdone _ xs _ (Nat.le_refl _) hS (hI.putObj _ hi (by omega) hl rfl) ((hother (by omega)).trans hd)⟩
      · have he := run_endLoop (P := P) hl (by rw [hR]; simp)
        rw [hR] at he
        exact ⟨some c, _, he, hstop _ c pre _ (Nat.le_refl _) hSp ((hIx c).putObj _ hi (by omega) hl rfl) ((hother (by omega)).trans hd)⟩

end Go.Proofs.Ytkofipbkfniplaa.Law
