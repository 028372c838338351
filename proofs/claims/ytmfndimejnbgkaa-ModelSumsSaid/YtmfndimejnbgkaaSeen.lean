/-
  A range over a function whose iterator ranges over another function itself and hands its values on: the contract asks the rounds to leave the walks' and loops' records alone that were laid since the iterator was called, and the caller's invariants to bear that such a record turns. Of whatever program.
-/
import Derived.Test.YtmfndimejnbgkaaOps
import Derived.RangeFuncNested
import Derived.RangeFuncBound
import Derived.RangeFuncCalls
import Derived.RangeFuncLeaves
import Derived.RangeFuncBox
import Derived.RangeFuncFrom
import Derived.OwnWalkIn
import Derived.RangeFuncWrites
namespace Go.Proofs.Ytmfndimejnbgkaa.Law
open Go Go.RowKit

/-- The iterator's contract: as the library's 'SeqStopsK', but a round is asked for only at a value x of which G holds in the world in which it is handed on. -/
def SeqTold {α : Type} (F : Fence) (n : Nat) (P : Program) (g : Nat) (lb : Array Value) (encs : α → Array Value) (G : α → World → Prop) (Kp : World → World → Prop) (S Sp : List α → Prop) (N : Nat) (w : World) : Prop :=
  ∀ (l : Nat) (J Jx : List α → World → Prop) (W : World), Below w.heap.size w W → AbidesFrom W.heap.size J → AbidesFrom W.heap.size Jx →
    (∀ pre x W1, J pre W1 → G x W1 → Sp (pre ++ [x]) → pre.length < N → YieldAt F (n - 1) P l (encs x) W1 fun e W' =>
      (e = .returned (.bool true) ∧ J (pre ++ [x]) W' ∧ Kp W1 W') ∨ (e = .returned (.bool false) ∧ Jx (pre ++ [x]) W')) →
    J [] W →
    CallsIn F n P g (#[.func (.yield l) #[] #[]] ++ lb) W fun e W' => (∃ v, e = .returned v) ∧ ((∃ xs, S xs ∧ J xs W') ∨ (∃ pre, Sp pre ∧ Jx pre W'))

variable {F : Fence} {n : Nat} {P : Program}

set_option maxHeartbeats 1000000 in
/-- The caller's law over such a contract. -/
theorem wpIn_rangeFunc_told {α : Type} {g : Operand} {ps : Array Tmp} {assign body : Code} {Q : Exit → Act → World → Prop} {a : Act} {w : World}
    (hro : F.round = none) (h1 : 1 ≤ n) {gf : Nat} {lb : Array Value} (hg : a.eval g = .func (.func gf) #[] lb) (hFg : F.fn gf) (eg : ∀ args w, (callFunc gf args).run P w = .ok (.enter gf args) w)
    {encs : α → Array Value} {G : α → World → Prop} {Kp : World → World → Prop} {S Sp : List α → Prop} {N : Nat} {w0 : World} (hseq : SeqTold F (n - 1) P gf lb encs G Kp S Sp N w0)
    (hKt : ∀ {A B C : World}, Kp A B → Kp B C → Kp A C) (hKb : ∀ (W : World) (l : Nat) (o o' : Obj), w.heap.size ≤ l → W.heap[l]? = some o → o.isCells = false → o.isWalk = false → Kp W (W.putObj l o')) (hb0 : Below w0.heap.size w0 w) (hps : ∀ x, (encs x).size = ps.size)
    (I : List α → World → Prop) (Ix : Code → List α → World → Prop) (hI : OwnFrom w.heap.size I) (hIx : ∀ c, OwnFrom w.heap.size (Ix c)) (hG : ∀ x, OwnFrom w.heap.size (fun (_ : Unit) W => G x W)) (h0 : I [] w) (a₁ : α → Act)
    (hassign : ∀ (l : Nat) (x : α) (W : World) (K : Act → World → Prop), K (a₁ x) W →
      assign.wpIn (F.inRound l) (n - 1 - 1) P (Exit.then K (fun _ _ _ => False)) { tmps := (ps.zip (encs x)).foldl (fun t (p, v) => t.setIfInBounds p v) a.tmps, defers := [] } W)
    (hbody : ∀ (l : Nat) (pre : List α) (x : α) (W : World), I pre W → G x W → Sp (pre ++ [x]) → pre.length < N → body.wpIn (F.inRound l) (n - 1 - 1) P (ownPostK Kp I Ix (pre ++ [x]) W) (a₁ x) W)
    (hdone : ∀ (D : Nat) (xs : List α) (W : World), w.heap.size ≤ D → S xs → I xs W → W.heap[D]? = some (.deferred (some [])) → Q .normal { a with defers := { target := .collected D, args := #[] } :: a.defers } W)
    (hstop : ∀ (D : Nat) (c : Code) (pre : List α) (W : World), w.heap.size ≤ D → Sp pre → Ix c pre W → W.heap[D]? = some (.deferred (some [])) → c.wpIn F n P Q { a with defers := { target := .collected D, args := #[] } :: a.defers } W) :
    (Code.rangeFunc g ps assign body).wpIn F n P Q a w := by
  refine wpIn_rangeFunc fun fn hfn => ?_
  rw [hro]
  -- the loop's record in each of its states, in the block behind the one for deferred calls
  obtain ⟨R, hR⟩ : ∃ R : LoopState → Option Code → Loop, R = fun st pe => { state := st, pending := pe, fn, tmps := a.tmps, params := ps, assign, body, defers := w.heap.size } := ⟨_, rfl⟩
  have hsame : ∀ {W : World} {k : Nat} {o : Obj}, k < W.heap.size → (W.putObj k o).heap[k]? = some o := fun h => World.putObj_heap_same h
  have hother : ∀ {W : World} {j k : Nat} {o : Obj}, j ≠ k → (W.putObj k o).heap[j]? = W.heap[j]? := fun h => World.putObj_heap_other h
  have hlt : ∀ {W : World} {k : Nat} {o : Obj}, W.heap[k]? = some o → k < W.heap.size := fun h => (Array.getElem?_eq_some_iff.1 h).1
  obtain ⟨W1, hW1⟩ : ∃ W1, (w.alloc (.deferred (some []))).alloc (.loop (R .ready none)) = W1 := ⟨_, rfl⟩
  have hsz : W1.heap.size = w.heap.size + 2 := by rw [← hW1]; simp
  have hL : W1.heap[w.heap.size + 1]? = some (.loop (R .ready none)) := by
    have := World.alloc_heap_new (w.alloc (.deferred (some []))) (.loop (R .ready none))
    rwa [World.size_alloc, hW1] at this
  have hD : W1.heap[w.heap.size]? = some (.deferred (some [])) := by
    rw [← hW1]; exact (Below.heap_alloc _ _ _ (by simp)).trans (World.alloc_heap_new w _)
  have hbW : Below w0.heap.size w0 W1 := by
    rw [← hW1]; exact hb0.trans ((((Below.refl _ w).alloc (Nat.le_refl _) _).alloc (by simp) _).mono hb0.size)
  refine ⟨w.heap.size + 1, [{ target := .collected w.heap.size, args := #[] }], W1, { target := .fn (.func gf) lb, args := #[.func (.yield (w.heap.size + 1)) #[] #[]] }, W1, gf,
    #[.func (.yield (w.heap.size + 1)) #[] #[]] ++ lb, W1, ?_, ?_, ?_, ?_, fun _ => h1, ?_⟩
  · rw [← hW1, hR]; exact run_enterLoop_outer _ _ _ _ _
  · simp only [resolve, hg]
    simp [go_sem]
  · intro f' hf'; simp [Target.leads] at hf'; subst hf'; exact hFg
  · simp [invoke, go_sem, eg]
  · have hcells : ∀ {A : World} {row : Option Nat}, (∀ r, row = some r → W1.heap.size ≤ r ∧ ∃ o : Obj, A.heap[r]? = some o ∧ o.isWalk = true) → (∀ r, row = some r → w.heap.size ≤ r ∧ ∃ o : Obj, A.heap[r]? = some o ∧ o.isCells = false) :=
      fun hr r e => by obtain ⟨hB, o, ho, hw⟩ := hr r e; exact ⟨by omega, o, ho, Obj.not_cells_of_walk hw⟩
    refine (hseq (w.heap.size + 1)
      (fun pre W => I pre W ∧ W.heap[w.heap.size + 1]? = some (.loop (R .ready none)) ∧ W.heap[w.heap.size]? = some (.deferred (some [])))
      (fun pre W => ∃ c, Ix c pre W ∧ W.heap[w.heap.size + 1]? = some (.loop (R .done (some c))) ∧ W.heap[w.heap.size]? = some (.deferred (some [])))
      W1 hbW ?_ ?_ ?_ ⟨by rw [← hW1]; exact hI.alloc _ (hI.alloc _ h0), hL, hD⟩).mono ?_
    · rintro s A B row ⟨i1, i2, i3⟩ hg' hr
      have hk := fun r e => (hr r e).2
      exact ⟨hI s A B row i1 hg' (hcells hr), (grownBy_keeps hg' hk i2 rfl).trans i2, (grownBy_keeps hg' hk i3 rfl).trans i3⟩
    · rintro s A B row ⟨c, i1, i2, i3⟩ hg' hr
      have hk := fun r e => (hr r e).2
      exact ⟨c, hIx c s A B row i1 hg' (hcells hr), (grownBy_keeps hg' hk i2 rfl).trans i2, (grownBy_keeps hg' hk i3 rfl).trans i3⟩
    · -- one round
      rintro pre x W ⟨hi, hl, hd⟩ hgx hsp hlen
      have hy := run_yield (P := P) (args := encs x) hl (by rw [hR]; exact hps x)
      rw [hR] at hy
      refine ⟨fn, _, assign, body, hy, roundIn_of_wpIn hfn (hassign _ x W _ ⟨_, run_beginRound hl (by rw [hR]), ?_⟩)⟩
      obtain ⟨V, hV⟩ : ∃ V, W.putObj (w.heap.size + 1) (.loop { R .ready none with state := .busy }) = V := ⟨_, rfl⟩
      have lV : V.heap[w.heap.size + 1]? = some (.loop { R .ready none with state := .busy }) := by rw [← hV]; exact hsame (hlt hl)
      have dV : V.heap[w.heap.size]? = some (.deferred (some [])) := by rw [← hV]; exact (hother (by omega)).trans hd
      have kV : Kp W V := by rw [← hV]; exact hKb _ _ _ _ (by omega) hl rfl rfl
      have iV : I pre V := by rw [← hV]; exact hI.putObj _ hi (by omega) hl rfl
      have gV : G x V := by rw [← hV]; exact (hG x).putObj (s := ()) _ hgx (by omega) hl rfl
      rw [hV]
      refine wpIn_mono (hbody _ pre x V iV gV hsp hlen) ?_
      have fin : ∀ (j : Option Code) (U : World), KeepsOthers V U →
          (Instr.endRound (w.heap.size + 1) j).run P U = .ok (.bool j.isNone) (U.putObj (w.heap.size + 1) (.loop (R (if j.isNone then .ready else .done) j))) ∧
          U.heap[w.heap.size + 1]? = some (.loop { R .ready none with state := .busy }) ∧
          (U.putObj (w.heap.size + 1) (.loop (R (if j.isNone then .ready else .done) j))).heap[w.heap.size + 1]? = some (.loop (R (if j.isNone then .ready else .done) j)) ∧
          (U.putObj (w.heap.size + 1) (.loop (R (if j.isNone then .ready else .done) j))).heap[w.heap.size]? = some (.deferred (some [])) := by
        intro j U hk
        have hu := hk.same _ _ lV rfl
        have he := run_endRound (P := P) j hu
        rw [hR] at he ⊢
        exact ⟨he, by rw [hR] at hu; exact hu, hsame (hlt hu), (hother (by omega)).trans (hk.same _ _ dV rfl)⟩
      have out : ∀ (c : Code) (U : World), KeepsOthers V U → Ix c (pre ++ [x]) U → ∃ r W', (Instr.endRound (w.heap.size + 1) (some c)).run P U = .ok r W' ∧ (r = .bool false ∧ ∃ c, Ix c (pre ++ [x]) W' ∧ W'.heap[w.heap.size + 1]? = some (.loop (R .done (some c))) ∧ W'.heap[w.heap.size]? = some (.deferred (some []))) := by
        intro c U hk hix
        obtain ⟨hr, hu, hu2, hd2⟩ := fin (some c) U hk
        exact ⟨_, _, hr, rfl, c, (hIx c).putObj _ hix (by omega) hu rfl, hu2, hd2⟩
      intro e a3 U hp
      match e, hp with
      | .normal, ⟨hk, hkp, hi3⟩ =>
        obtain ⟨hr, hu, hu2, hd2⟩ := fin none U hk
        exact ⟨_, _, hr, .inl ⟨rfl, ⟨hI.putObj _ hi3 (by omega) hu rfl, hu2, hd2⟩, hKt (hKt kV hkp) (hKb _ _ _ _ (by omega) hu rfl rfl)⟩⟩
      | .ret, ⟨hk, hix⟩ => obtain ⟨r, W', h1, rfl, h3⟩ := out .ret U hk hix; exact ⟨_, W', h1, .inr ⟨rfl, h3⟩⟩
      | .exit id, ⟨hk, hix⟩ => obtain ⟨r, W', h1, rfl, h3⟩ := out (.exit id) U hk hix; exact ⟨_, W', h1, .inr ⟨rfl, h3⟩⟩
      | .goto t, ⟨hk, hix⟩ => obtain ⟨r, W', h1, rfl, h3⟩ := out (.goto t) U hk hix; exact ⟨_, W', h1, .inr ⟨rfl, h3⟩⟩
      | .panic _, hp => exact hp.elim
      | .outgrown, hp => exact hp.elim
    · -- behind the iterator
      rintro e W2 ⟨⟨v, rfl⟩, (⟨xs, hS, hi, hl, hd⟩ | ⟨pre, hSp, c, hi, hl, hd⟩)⟩
      · have he := run_endLoop (P := P) hl (by rw [hR]; simp)
        rw [hR] at he
        exact ⟨none, _, he, hdone _ xs _ (Nat.le_refl _) hS (hI.putObj _ hi (by omega) hl rfl) ((hother (by omega)).trans hd)⟩
      · have he := run_endLoop (P := P) hl (by rw [hR]; simp)
        rw [hR] at he
        exact ⟨some c, _, he, hstop _ c pre _ (Nat.le_refl _) hSp ((hIx c).putObj _ hi (by omega) hl rfl) ((hother (by omega)).trans hd)⟩

theorem OwnB.kept {W W' : World} {row : Option Nat} {base : Nat} {e : TypeId} {v : Value} {bs : List Nat} (h : OwnB W base e v bs) (hg : W.grownBy W' row) (hne : v.ownBlock = none ∨ v.ownBlock ≠ row) : OwnB W' base e v bs := ⟨h.1.kept hg hne, h.2⟩
/-- A block of another kind of cells, or of no cells, is not theirs. -/
theorem OwnB.other {W : World} {base : Nat} {e : TypeId} {v : Value} {bs : List Nat} (h : OwnB W base e v bs) {k : Nat} {o : Obj} (hk : W.heap[k]? = some o) (ho : ∀ cur fz, o ≠ .cells cur e fz) : v.ownBlock = none ∨ v.ownBlock ≠ some k := by
  rcases h.1.2 with ⟨rfl, _⟩ | ⟨g, cap, cur, rfl, _, hgb, _⟩
  · exact .inl rfl
  · refine .inr fun e' => ?_
    obtain rfl : g = k := by simpa [Value.ownBlock] using e'
    rw [hgb] at hk
    exact ho _ _ (Option.some.inj hk).symm
theorem ownB_own {β : Type} (base : Nat) (e : TypeId) (f : β → Value) (h : β → List Nat) : Own (fun s W => OwnB W base e (f s) (h s)) := fun s X Y row hs hg hrow => by
  cases row with
  | none => exact hs.kept hg (by cases hb : (f s).ownBlock <;> simp)
  | some r =>
    obtain ⟨o, ho, hc⟩ := hrow r rfl
    exact hs.kept hg (hs.other ho (fun cur fz e' => by subst e'; cases hc))
theorem grown_of_below {W W' : World} (h : Below W.heap.size W W') : W.grownBy W' none := ⟨h.os, h.tape, h.output, h.size, fun k hk _ => h.block k hk⟩

/-- An append onto bytes of the call's own, as a step of the walk inside a fence. -/
theorem wpListIn_append_bytes {F : Fence} {n : Nat} {P : Program} {ops : Array Oper} {rest : List Oper} {o : Oper} {a : Act} {w : World} {Q : Exit → Act → World → Prop} (hgd : o.guard = none) (s x : Operand) (t : TypeId)
    (ho : o.op = .call { callee := .builtin .append, args := #[s, x], argTypes := #[t, t] }) {e : TypeId} {i : TypeInfo} {z : Value} (ht : P.underlying t = some (.slice e)) (hi : P.info? e = some i) (hz : i.zero = some z)
    (hsize : i.size = 1) (hby : i.bytes = 1) (hzs : z.cells.size = 1) {base n₁ : Nat} {v sv : Value} {xs bs : List Nat} (hs : a.eval s = v) (hx : a.eval x = sv) (hown : OwnB w base e v xs) (hI : Bytes n₁ w sv bs)
    (hroom : xs.length + bs.length ≤ 140737488355328) (hbase : base ≤ w.heap.size)
    (h : ∀ v' w', OwnB w' base e v' (xs ++ bs) → w.grownBy w' v.ownBlock → wpListIn F n P ops Q rest (a.put o.dst v') w') : wpListIn F n P ops Q (o :: rest) a w := by
  obtain ⟨v', w', hrun, h2, h3, _⟩ := run_append_bytes (P := P) w o.type ht hi hz hsize hby hzs hown hI hroom hbase
  refine wpListIn_plain hgd fun K hK' => ?_
  unfold Oper.wpIn
  refine ⟨?_, ?_⟩
  · simp [Oper.about, ho, resolve, Target.leads, Sem.run_pure]
  · rw [Oper.semAt_plain F _ _ (by rw [ho]; intro c hc'; cases hc')]
    simp only [execOp, ho, resolve, invoke, builtin, Sem.run_bind, Sem.run_pure, Result.andThen_ok, List.map_toArray, List.map_cons, List.map_nil, hs, hx, hrun]
    exact hK' _ _ (h v' w' h2 h3)

end Go.Proofs.Ytmfndimejnbgkaa.Law
namespace Go.Proofs.Ytmfndimejnbgkaa.Law
open Go Go.RowKit

variable {F : Fence} {n : Nat} {P : Program}

set_option maxHeartbeats 1000000 in
/-- The caller's law over such a contract, the loop's variable in a box that each round makes anew. -/
theorem wpIn_rangeFunc_toldH {α : Type} {g : Operand} {ps : Array Tmp} {assign body : Code} {Q : Exit → Act → World → Prop} {a : Act} {w : World}
    (hro : F.round = none) (h1 : 1 ≤ n) {gf : Nat} {lb : Array Value} (hg : a.eval g = .func (.func gf) #[] lb) (hFg : F.fn gf) (eg : ∀ args w, (callFunc gf args).run P w = .ok (.enter gf args) w)
    {encs : α → Array Value} {G : α → World → Prop} {Kp : World → World → Prop} {S Sp : List α → Prop} {N : Nat} {w0 : World} (hseq : SeqTold F (n - 1) P gf lb encs G Kp S Sp N w0)
    (hKt : ∀ {A B C : World}, Kp A B → Kp B C → Kp A C) (hKb : ∀ (W : World) (l : Nat) (o o' : Obj), w.heap.size ≤ l → W.heap[l]? = some o → o.isCells = false → o.isWalk = false → Kp W (W.putObj l o')) (hb0 : Below w0.heap.size w0 w) (hps : ∀ x, (encs x).size = ps.size)
    (I : List α → World → Prop) (Ix : Code → List α → World → Prop) (hI : OwnFrom w.heap.size I) (hIx : ∀ c, OwnFrom w.heap.size (Ix c)) (hG : ∀ x, OwnFrom w.heap.size (fun (_ : Unit) W => G x W)) (h0 : I [] w) (hKg : ∀ {A B : World}, w.heap.size ≤ A.heap.size → A.grownBy B none → Kp A B) (Ax : α → Act → World → Prop) (hAx : ∀ x a', OwnFrom w.heap.size (fun (_ : Unit) W => Ax x a' W))
    (hassign : ∀ (l : Nat) (pre : List α) (x : α) (W : World) (K : Act → World → Prop), I pre W → G x W → (∀ a' W', W.grownBy W' none → Ax x a' W' → K a' W') →
      assign.wpIn (F.inRound l) (n - 1 - 1) P (Exit.then K (fun _ _ _ => False)) { tmps := (ps.zip (encs x)).foldl (fun t (p, v) => t.setIfInBounds p v) a.tmps, defers := [] } W)
    (hbody : ∀ (l : Nat) (pre : List α) (x : α) (a' : Act) (W : World), I pre W → G x W → Ax x a' W → Sp (pre ++ [x]) → pre.length < N → body.wpIn (F.inRound l) (n - 1 - 1) P (ownPostK Kp I Ix (pre ++ [x]) W) a' W)
    (hdone : ∀ (D : Nat) (xs : List α) (W : World), w.heap.size ≤ D → S xs → I xs W → W.heap[D]? = some (.deferred (some [])) → Q .normal { a with defers := { target := .collected D, args := #[] } :: a.defers } W)
    (hstop : ∀ (D : Nat) (c : Code) (pre : List α) (W : World), w.heap.size ≤ D → Sp pre → Ix c pre W → W.heap[D]? = some (.deferred (some [])) → c.wpIn F n P Q { a with defers := { target := .collected D, args := #[] } :: a.defers } W) :
    (Code.rangeFunc g ps assign body).wpIn F n P Q a w := by
  refine wpIn_rangeFunc fun fn hfn => ?_
  rw [hro]
  -- the loop's record in each of its states, in the block behind the one for deferred calls
  obtain ⟨R, hR⟩ : ∃ R : LoopState → Option Code → Loop, R = fun st pe => { state := st, pending := pe, fn, tmps := a.tmps, params := ps, assign, body, defers := w.heap.size } := ⟨_, rfl⟩
  have hsame : ∀ {W : World} {k : Nat} {o : Obj}, k < W.heap.size → (W.putObj k o).heap[k]? = some o := fun h => World.putObj_heap_same h
  have hother : ∀ {W : World} {j k : Nat} {o : Obj}, j ≠ k → (W.putObj k o).heap[j]? = W.heap[j]? := fun h => World.putObj_heap_other h
  have hlt : ∀ {W : World} {k : Nat} {o : Obj}, W.heap[k]? = some o → k < W.heap.size := fun h => (Array.getElem?_eq_some_iff.1 h).1
  obtain ⟨W1, hW1⟩ : ∃ W1, (w.alloc (.deferred (some []))).alloc (.loop (R .ready none)) = W1 := ⟨_, rfl⟩
  have hsz : W1.heap.size = w.heap.size + 2 := by rw [← hW1]; simp
  have hL : W1.heap[w.heap.size + 1]? = some (.loop (R .ready none)) := by
    have := World.alloc_heap_new (w.alloc (.deferred (some []))) (.loop (R .ready none))
    rwa [World.size_alloc, hW1] at this
  have hD : W1.heap[w.heap.size]? = some (.deferred (some [])) := by
    rw [← hW1]; exact (Below.heap_alloc _ _ _ (by simp)).trans (World.alloc_heap_new w _)
  have hbW : Below w0.heap.size w0 W1 := by
    rw [← hW1]; exact hb0.trans ((((Below.refl _ w).alloc (Nat.le_refl _) _).alloc (by simp) _).mono hb0.size)
  refine ⟨w.heap.size + 1, [{ target := .collected w.heap.size, args := #[] }], W1, { target := .fn (.func gf) lb, args := #[.func (.yield (w.heap.size + 1)) #[] #[]] }, W1, gf,
    #[.func (.yield (w.heap.size + 1)) #[] #[]] ++ lb, W1, ?_, ?_, ?_, ?_, fun _ => h1, ?_⟩
  · rw [← hW1, hR]; exact run_enterLoop_outer _ _ _ _ _
  · simp only [resolve, hg]
    simp [go_sem]
  · intro f' hf'; simp [Target.leads] at hf'; subst hf'; exact hFg
  · simp [invoke, go_sem, eg]
  · have hcells : ∀ {A : World} {row : Option Nat}, (∀ r, row = some r → W1.heap.size ≤ r ∧ ∃ o : Obj, A.heap[r]? = some o ∧ o.isWalk = true) → (∀ r, row = some r → w.heap.size ≤ r ∧ ∃ o : Obj, A.heap[r]? = some o ∧ o.isCells = false) :=
      fun hr r e => by obtain ⟨hB, o, ho, hw⟩ := hr r e; exact ⟨by omega, o, ho, Obj.not_cells_of_walk hw⟩
    refine (hseq (w.heap.size + 1)
      (fun pre W => I pre W ∧ W.heap[w.heap.size + 1]? = some (.loop (R .ready none)) ∧ W.heap[w.heap.size]? = some (.deferred (some [])))
      (fun pre W => ∃ c, Ix c pre W ∧ W.heap[w.heap.size + 1]? = some (.loop (R .done (some c))) ∧ W.heap[w.heap.size]? = some (.deferred (some [])))
      W1 hbW ?_ ?_ ?_ ⟨by rw [← hW1]; exact hI.alloc _ (hI.alloc _ h0), hL, hD⟩).mono ?_
    · rintro s A B row ⟨i1, i2, i3⟩ hg' hr
      have hk := fun r e => (hr r e).2
      exact ⟨hI s A B row i1 hg' (hcells hr), (grownBy_keeps hg' hk i2 rfl).trans i2, (grownBy_keeps hg' hk i3 rfl).trans i3⟩
    · rintro s A B row ⟨c, i1, i2, i3⟩ hg' hr
      have hk := fun r e => (hr r e).2
      exact ⟨c, hIx c s A B row i1 hg' (hcells hr), (grownBy_keeps hg' hk i2 rfl).trans i2, (grownBy_keeps hg' hk i3 rfl).trans i3⟩
    · -- one round
      rintro pre x W0 ⟨hi0, hl0, hd0⟩ hgx0 hsp hlen
      have hy := run_yield (P := P) (args := encs x) hl0 (by rw [hR]; exact hps x)
      rw [hR] at hy
      refine ⟨fn, _, assign, body, hy, roundIn_of_wpIn hfn (hassign _ pre x W0 _ hi0 hgx0 fun a' W hgr hax => ?_)⟩
      have hnone : ∀ r : Nat, (none : Option Nat) = some r → w.heap.size ≤ r ∧ ∃ o : Obj, W0.heap[r]? = some o ∧ o.isCells = false := fun r e => by cases e
      have hl := (hgr.block _ (hlt hl0) (by simp)).trans hl0
      have hd := (hgr.block _ (hlt hd0) (by simp)).trans hd0
      have hi := hI _ _ _ none hi0 hgr hnone
      have hgx := hG x () _ _ none hgx0 hgr hnone
      have hk0 : Kp W0 W := hKg (by have := hlt hl0; omega) hgr
      refine ⟨_, run_beginRound hl (by rw [hR]), ?_⟩
      obtain ⟨V, hV⟩ : ∃ V, W.putObj (w.heap.size + 1) (.loop { R .ready none with state := .busy }) = V := ⟨_, rfl⟩
      have lV : V.heap[w.heap.size + 1]? = some (.loop { R .ready none with state := .busy }) := by rw [← hV]; exact hsame (hlt hl)
      have dV : V.heap[w.heap.size]? = some (.deferred (some [])) := by rw [← hV]; exact (hother (by omega)).trans hd
      have kV : Kp W V := by rw [← hV]; exact hKb _ _ _ _ (by omega) hl rfl rfl
      have iV : I pre V := by rw [← hV]; exact hI.putObj _ hi (by omega) hl rfl
      have gV : G x V := by rw [← hV]; exact (hG x).putObj (s := ()) _ hgx (by omega) hl rfl
      have aV : Ax x a' V := by rw [← hV]; exact (hAx x a').putObj (s := ()) _ hax (by omega) hl rfl
      rw [hV]
      refine wpIn_mono (hbody _ pre x a' V iV gV aV hsp hlen) ?_
      have fin : ∀ (j : Option Code) (U : World), KeepsOthers V U →
          (Instr.endRound (w.heap.size + 1) j).run P U = .ok (.bool j.isNone) (U.putObj (w.heap.size + 1) (.loop (R (if j.isNone then .ready else .done) j))) ∧
          U.heap[w.heap.size + 1]? = some (.loop { R .ready none with state := .busy }) ∧
          (U.putObj (w.heap.size + 1) (.loop (R (if j.isNone then .ready else .done) j))).heap[w.heap.size + 1]? = some (.loop (R (if j.isNone then .ready else .done) j)) ∧
          (U.putObj (w.heap.size + 1) (.loop (R (if j.isNone then .ready else .done) j))).heap[w.heap.size]? = some (.deferred (some [])) := by
        intro j U hk
        have hu := hk.same _ _ lV rfl
        have he := run_endRound (P := P) j hu
        rw [hR] at he ⊢
        exact ⟨he, by rw [hR] at hu; exact hu, hsame (hlt hu), (hother (by omega)).trans (hk.same _ _ dV rfl)⟩
      have out : ∀ (c : Code) (U : World), KeepsOthers V U → Ix c (pre ++ [x]) U → ∃ r W', (Instr.endRound (w.heap.size + 1) (some c)).run P U = .ok r W' ∧ (r = .bool false ∧ ∃ c, Ix c (pre ++ [x]) W' ∧ W'.heap[w.heap.size + 1]? = some (.loop (R .done (some c))) ∧ W'.heap[w.heap.size]? = some (.deferred (some []))) := by
        intro c U hk hix
        obtain ⟨hr, hu, hu2, hd2⟩ := fin (some c) U hk
        exact ⟨_, _, hr, rfl, c, (hIx c).putObj _ hix (by omega) hu rfl, hu2, hd2⟩
      intro e a3 U hp
      match e, hp with
      | .normal, ⟨hk, hkp, hi3⟩ =>
        obtain ⟨hr, hu, hu2, hd2⟩ := fin none U hk
        exact ⟨_, _, hr, .inl ⟨rfl, ⟨hI.putObj _ hi3 (by omega) hu rfl, hu2, hd2⟩, hKt hk0 (hKt (hKt kV hkp) (hKb _ _ _ _ (by omega) hu rfl rfl))⟩⟩
      | .ret, ⟨hk, hix⟩ => obtain ⟨r, W', h1, rfl, h3⟩ := out .ret U hk hix; exact ⟨_, W', h1, .inr ⟨rfl, h3⟩⟩
      | .exit id, ⟨hk, hix⟩ => obtain ⟨r, W', h1, rfl, h3⟩ := out (.exit id) U hk hix; exact ⟨_, W', h1, .inr ⟨rfl, h3⟩⟩
      | .goto t, ⟨hk, hix⟩ => obtain ⟨r, W', h1, rfl, h3⟩ := out (.goto t) U hk hix; exact ⟨_, W', h1, .inr ⟨rfl, h3⟩⟩
      | .panic _, hp => exact hp.elim
      | .outgrown, hp => exact hp.elim
    · -- behind the iterator
      rintro e W2 ⟨⟨v, rfl⟩, (⟨xs, hS, hi, hl, hd⟩ | ⟨pre, hSp, c, hi, hl, hd⟩)⟩
      · have he := run_endLoop (P := P) hl (by rw [hR]; simp)
        rw [hR] at he
        exact ⟨none, _, he, hdone _ xs _ (Nat.le_refl _) hS (hI.putObj _ hi (by omega) hl rfl) ((hother (by omega)).trans hd)⟩
      · have he := run_endLoop (P := P) hl (by rw [hR]; simp)
        rw [hR] at he
        exact ⟨some c, _, he, hstop _ c pre _ (Nat.le_refl _) hSp ((hIx c).putObj _ hi (by omega) hl rfl) ((hother (by omega)).trans hd)⟩

end Go.Proofs.Ytmfndimejnbgkaa.Law
namespace Go.Proofs.Ytmfndimejnbgkaa.Law
open Go Go.RowKit

/-- What is left alone from block B on: all but objects of the kinds ex (the caller's own rows). -/
structure KeepsX (ex : Obj → Prop) (B : Nat) (W W' : World) : Prop where
  size : W.heap.size ≤ W'.heap.size
  same : ∀ (k : Nat) (o : Obj), B ≤ k → W.heap[k]? = some o → ¬ ex o → W'.heap[k]? = some o
theorem KeepsX.refl (ex : Obj → Prop) (B : Nat) (W : World) : KeepsX ex B W W := ⟨Nat.le_refl _, fun _ _ _ h _ => h⟩
theorem KeepsX.trans {ex : Obj → Prop} {B : Nat} {X Y Z : World} (h : KeepsX ex B X Y) (k : KeepsX ex B Y Z) : KeepsX ex B X Z := ⟨Nat.le_trans h.size k.size, fun i o hB hi ho => k.same i o hB (h.same i o hB hi ho) ho⟩
theorem KeepsX.lift {ex : Obj → Prop} {B C : Nat} {X Y : World} (h : KeepsX ex B X Y) (hBC : B ≤ C) : KeepsX ex C X Y := ⟨h.size, fun k o hk hx ho => h.same k o (Nat.le_trans hBC hk) hx ho⟩
theorem KeepsX.putObj {ex : Obj → Prop} (B : Nat) (W : World) {l : Nat} (hl : l < B) (o : Obj) : KeepsX ex B W (W.putObj l o) :=
  ⟨by simp [World.putObj], fun k o' hk hx _ => (World.putObj_heap_other (by omega)).trans hx⟩
theorem KeepsX.grown {ex : Obj → Prop} {B : Nat} {W W' : World} {row : Option Nat} (hg : W.grownBy W' row) (hrow : ∀ j, row = some j → j < B ∨ W.heap.size ≤ j ∨ ∃ o, W.heap[j]? = some o ∧ ex o) : KeepsX ex B W W' :=
  ⟨hg.size, fun k o hB hk ho => (hg.block k (Array.getElem?_eq_some_iff.1 hk).1 (fun e => by
    have hl := (Array.getElem?_eq_some_iff.1 hk).1
    rcases hrow k e.symm with h | h | ⟨o', h, hx⟩
    · omega
    · omega
    · rw [hk] at h
      obtain rfl := Option.some.inj h
      exact ho hx)).trans hk⟩
theorem KeepsX.others {ex : Obj → Prop} {W W' : World} (B : Nat) (hs : W.heap.size ≤ W'.heap.size) (h : ∀ k, B ≤ k → k < W.heap.size → W'.heap[k]? = W.heap[k]?) : KeepsX ex B W W' :=
  ⟨hs, fun k _ hB hk _ => (h k hB (Array.getElem?_eq_some_iff.1 hk).1).trans hk⟩
/-- An invariant that bears what an iterator does with its own: new blocks, and the turn of one from B on that is not of the kinds ex. -/
def OwnX {β : Type} (ex : Obj → Prop) (B : Nat) (I : β → World → Prop) : Prop :=
  ∀ (s : β) (W W' : World) (row : Option Nat), I s W → W.grownBy W' row → (∀ r, row = some r → B ≤ r ∧ ∃ o : Obj, W.heap[r]? = some o ∧ ¬ ex o) → I s W'
theorem OwnX.lift {β : Type} {ex : Obj → Prop} {B C : Nat} {I : β → World → Prop} (h : OwnX ex B I) (hBC : B ≤ C) : OwnX ex C I := fun s W W' row hs hg hr => h s W W' row hs hg (fun r e => ⟨Nat.le_trans hBC (hr r e).1, (hr r e).2⟩)
theorem OwnX.and {β : Type} {ex : Obj → Prop} {B : Nat} {I I' : β → World → Prop} (h : OwnX ex B I) (h' : OwnX ex B I') : OwnX ex B (fun s W => I s W ∧ I' s W) := fun s W W' row hs hg hr => ⟨h s W W' row hs.1 hg hr, h' s W W' row hs.2 hg hr⟩
theorem OwnX.new {β : Type} {ex : Obj → Prop} {B : Nat} {I : β → World → Prop} (h : OwnX ex B I) {s : β} {W W' : World} (hs : I s W) (hg : W.grownBy W' none) : I s W' := h s W W' none hs hg (fun r e => by cases e)
theorem OwnX.putObj {β : Type} {ex : Obj → Prop} {B : Nat} {I : β → World → Prop} (h : OwnX ex B I) {s : β} {W : World} {l : Nat} {o : Obj} (o' : Obj) (hs : I s W) (hB : B ≤ l) (hl : W.heap[l]? = some o) (ho : ¬ ex o) : I s (W.putObj l o') :=
  h s W _ (some l) hs (grownBy_putObj' W l o') (fun r e => by cases e; exact ⟨hB, o, hl, ho⟩)
theorem OwnX.pure {β : Type} (ex : Obj → Prop) (B : Nat) (p : β → Prop) : OwnX ex B (fun s (_ : World) => p s) := fun _ _ _ _ hs _ _ => hs
/-- Blocks below B lie as they lay in w0. -/
theorem OwnX.low {β : Type} {ex : Obj → Prop} {B : Nat} {S : Nat → Prop} {w0 : World} (hS : ∀ k, S k → k < B) (hw : ∀ k, S k → k < w0.heap.size) : OwnX ex B (fun (_ : β) W => w0.heap.size ≤ W.heap.size ∧ ∀ k, S k → W.heap[k]? = w0.heap[k]?) := fun s W W' row hs hg hr =>
  ⟨Nat.le_trans hs.1 hg.size, fun k hk => (hg.block k (by have := hw k hk; omega) (fun e => by have := (hr k e.symm).1; have := hS k hk; omega)).trans (hs.2 k hk)⟩
/-- How a round's body is left. -/
def ownPostX {α : Type} (ex : Obj → Prop) (B : Nat) (Kp : World → World → Prop) (I : List α → World → Prop) (Ix : Code → List α → World → Prop) (xs : List α) (W : World) : Exit → Act → World → Prop
  | .normal, _, W' => KeepsX ex B W W' ∧ Kp W W' ∧ I xs W'
  | .ret, _, W' => KeepsX ex B W W' ∧ Ix .ret xs W'
  | .exit id, _, W' => KeepsX ex B W W' ∧ Ix (.exit id) xs W'
  | .goto t, _, W' => KeepsX ex B W W' ∧ Ix (.goto t) xs W'
  | .panic _, _, _ => False
  | .outgrown, _, _ => False

/-- The iterator's contract: a round leaves the iterator's own alone (all blocks since its call but those of the kinds ex), and the invariants bear what it does with its own. -/
def SeqSeen {α : Type} (ex : Obj → Prop) (F : Fence) (n : Nat) (P : Program) (g : Nat) (lb : Array Value) (encs : α → Array Value) (Kp : World → World → Prop) (S Sp : List α → Prop) (N : Nat) (w : World) : Prop :=
  ∀ (l : Nat) (J Jx : List α → World → Prop) (W : World), Below w.heap.size w W → OwnX ex W.heap.size J → OwnX ex W.heap.size Jx →
    (∀ pre x W1, J pre W1 → W.heap.size ≤ W1.heap.size → Sp (pre ++ [x]) → pre.length < N → YieldAt F (n - 1) P l (encs x) W1 fun e W' =>
      (e = .returned (.bool true) ∧ J (pre ++ [x]) W' ∧ Kp W1 W' ∧ KeepsX ex W.heap.size W1 W') ∨ (e = .returned (.bool false) ∧ Jx (pre ++ [x]) W' ∧ KeepsX ex W.heap.size W1 W')) →
    J [] W →
    CallsIn F n P g (#[.func (.yield l) #[] #[]] ++ lb) W fun e W' => (∃ v, e = .returned v) ∧ ((∃ xs, S xs ∧ J xs W') ∨ (∃ pre, Sp pre ∧ Jx pre W'))

variable {F : Fence} {n : Nat} {P : Program}

set_option maxHeartbeats 1000000 in
/-- The caller's law over such a contract (the loop's variable in a box, the body told of its own loop's record). -/
theorem wpIn_rangeFunc_seen {α : Type} {g : Operand} {ps : Array Tmp} {assign body : Code} {Q : Exit → Act → World → Prop} {a : Act} {w : World}
    (hro : F.round = none) (h1 : 1 ≤ n) {gf : Nat} {lb : Array Value} (hg : a.eval g = .func (.func gf) #[] lb) (hFg : F.fn gf) (eg : ∀ args w, (callFunc gf args).run P w = .ok (.enter gf args) w)
    {ex : Obj → Prop} (hex : ∀ o, ex o → o.isCells = true) {encs : α → Array Value} {Kp : World → World → Prop} {S Sp : List α → Prop} {N : Nat} {w0 : World} (hseq : SeqSeen ex F (n - 1) P gf lb encs Kp S Sp N w0)
    (hKt : ∀ {A B C : World}, Kp A B → Kp B C → Kp A C) (hKb : ∀ (W : World) (l : Nat) (o o' : Obj), w.heap.size ≤ l → W.heap[l]? = some o → o.isCells = false → o.isWalk = false → Kp W (W.putObj l o')) (hb0 : Below w0.heap.size w0 w) (hps : ∀ x, (encs x).size = ps.size)
    (I : List α → World → Prop) (Ix : Code → List α → World → Prop) (hI : OwnX ex w.heap.size I) (hIx : ∀ c, OwnX ex w.heap.size (Ix c)) (h0 : I [] w) (hKg : ∀ {A B : World}, w.heap.size ≤ A.heap.size → A.grownBy B none → Kp A B) (Ax : α → Act → World → Prop) (hAx : ∀ x a', OwnFrom w.heap.size (fun (_ : Unit) W => Ax x a' W))
    (hassign : ∀ (l : Nat) (pre : List α) (x : α) (W : World) (K : Act → World → Prop), I pre W → (∀ a' W', W.grownBy W' none → Ax x a' W' → K a' W') →
      assign.wpIn (F.inRound l) (n - 1 - 1) P (Exit.then K (fun _ _ _ => False)) { tmps := (ps.zip (encs x)).foldl (fun t (p, v) => t.setIfInBounds p v) a.tmps, defers := [] } W)
    (hbody : ∀ (l : Nat) (pre : List α) (x : α) (a' : Act) (W : World), w.heap.size ≤ l → (∃ r, W.heap[l]? = some (.loop r)) → I pre W → Ax x a' W → Sp (pre ++ [x]) → pre.length < N → body.wpIn (F.inRound l) (n - 1 - 1) P (ownPostX ex w.heap.size Kp I Ix (pre ++ [x]) W) a' W)
    (hdone : ∀ (D : Nat) (xs : List α) (W : World), w.heap.size ≤ D → S xs → I xs W → W.heap[D]? = some (.deferred (some [])) → Q .normal { a with defers := { target := .collected D, args := #[] } :: a.defers } W)
    (hstop : ∀ (D : Nat) (c : Code) (pre : List α) (W : World), w.heap.size ≤ D → Sp pre → Ix c pre W → W.heap[D]? = some (.deferred (some [])) → c.wpIn F n P Q { a with defers := { target := .collected D, args := #[] } :: a.defers } W) :
    (Code.rangeFunc g ps assign body).wpIn F n P Q a w := by
  refine wpIn_rangeFunc fun fn hfn => ?_
  rw [hro]
  -- the loop's record in each of its states, in the block behind the one for deferred calls
  obtain ⟨R, hR⟩ : ∃ R : LoopState → Option Code → Loop, R = fun st pe => { state := st, pending := pe, fn, tmps := a.tmps, params := ps, assign, body, defers := w.heap.size } := ⟨_, rfl⟩
  have hsame : ∀ {W : World} {k : Nat} {o : Obj}, k < W.heap.size → (W.putObj k o).heap[k]? = some o := fun h => World.putObj_heap_same h
  have hother : ∀ {W : World} {j k : Nat} {o : Obj}, j ≠ k → (W.putObj k o).heap[j]? = W.heap[j]? := fun h => World.putObj_heap_other h
  have hlt : ∀ {W : World} {k : Nat} {o : Obj}, W.heap[k]? = some o → k < W.heap.size := fun h => (Array.getElem?_eq_some_iff.1 h).1
  obtain ⟨W1, hW1⟩ : ∃ W1, (w.alloc (.deferred (some []))).alloc (.loop (R .ready none)) = W1 := ⟨_, rfl⟩
  have hsz : W1.heap.size = w.heap.size + 2 := by rw [← hW1]; simp
  have hL : W1.heap[w.heap.size + 1]? = some (.loop (R .ready none)) := by
    have := World.alloc_heap_new (w.alloc (.deferred (some []))) (.loop (R .ready none))
    rwa [World.size_alloc, hW1] at this
  have hD : W1.heap[w.heap.size]? = some (.deferred (some [])) := by
    rw [← hW1]; exact (Below.heap_alloc _ _ _ (by simp)).trans (World.alloc_heap_new w _)
  have hbW : Below w0.heap.size w0 W1 := by
    rw [← hW1]; exact hb0.trans ((((Below.refl _ w).alloc (Nat.le_refl _) _).alloc (by simp) _).mono hb0.size)
  refine ⟨w.heap.size + 1, [{ target := .collected w.heap.size, args := #[] }], W1, { target := .fn (.func gf) lb, args := #[.func (.yield (w.heap.size + 1)) #[] #[]] }, W1, gf,
    #[.func (.yield (w.heap.size + 1)) #[] #[]] ++ lb, W1, ?_, ?_, ?_, ?_, fun _ => h1, ?_⟩
  · rw [← hW1, hR]; exact run_enterLoop_outer _ _ _ _ _
  · simp only [resolve, hg]
    simp [go_sem]
  · intro f' hf'; simp [Target.leads] at hf'; subst hf'; exact hFg
  · simp [invoke, go_sem, eg]
  · have hnx : ∀ {o : Obj}, o.isCells = false → ¬ ex o := fun ho hx => by rw [hex _ hx] at ho; cases ho
    have hcells : ∀ {A : World} {row : Option Nat}, (∀ r, row = some r → W1.heap.size ≤ r ∧ ∃ o : Obj, A.heap[r]? = some o ∧ ¬ ex o) → (∀ r, row = some r → w.heap.size ≤ r ∧ ∃ o : Obj, A.heap[r]? = some o ∧ ¬ ex o) :=
      fun hr r e => by obtain ⟨hB, o, ho, hw⟩ := hr r e; exact ⟨by omega, o, ho, hw⟩
    refine (hseq (w.heap.size + 1)
      (fun pre W => I pre W ∧ W.heap[w.heap.size + 1]? = some (.loop (R .ready none)) ∧ W.heap[w.heap.size]? = some (.deferred (some [])))
      (fun pre W => ∃ c, Ix c pre W ∧ W.heap[w.heap.size + 1]? = some (.loop (R .done (some c))) ∧ W.heap[w.heap.size]? = some (.deferred (some [])))
      W1 hbW ?_ ?_ ?_ ⟨by rw [← hW1]; exact hI.new (hI.new h0 (World.grownBy_alloc _ _ _)) (World.grownBy_alloc _ _ _), hL, hD⟩).mono ?_
    · rintro s A B row ⟨i1, i2, i3⟩ hg' hr
      exact ⟨hI s A B row i1 hg' (hcells hr), (hg'.block _ (hlt i2) (fun e => by have := (hr _ e.symm).1; omega)).trans i2, (hg'.block _ (hlt i3) (fun e => by have := (hr _ e.symm).1; omega)).trans i3⟩
    · rintro s A B row ⟨c, i1, i2, i3⟩ hg' hr
      exact ⟨c, hIx c s A B row i1 hg' (hcells hr), (hg'.block _ (hlt i2) (fun e => by have := (hr _ e.symm).1; omega)).trans i2, (hg'.block _ (hlt i3) (fun e => by have := (hr _ e.symm).1; omega)).trans i3⟩
    · -- one round
      rintro pre x W0 ⟨hi0, hl0, hd0⟩ hsz0 hsp hlen
      have hy := run_yield (P := P) (args := encs x) hl0 (by rw [hR]; exact hps x)
      rw [hR] at hy
      refine ⟨fn, _, assign, body, hy, roundIn_of_wpIn hfn (hassign _ pre x W0 _ hi0 fun a' W hgr hax => ?_)⟩
      have hl := (hgr.block _ (hlt hl0) (by simp)).trans hl0
      have hd := (hgr.block _ (hlt hd0) (by simp)).trans hd0
      have hi := hI.new hi0 hgr
      have hk0 : Kp W0 W := hKg (by have := hlt hl0; omega) hgr
      refine ⟨_, run_beginRound hl (by rw [hR]), ?_⟩
      obtain ⟨V, hV⟩ : ∃ V, W.putObj (w.heap.size + 1) (.loop { R .ready none with state := .busy }) = V := ⟨_, rfl⟩
      have lV : V.heap[w.heap.size + 1]? = some (.loop { R .ready none with state := .busy }) := by rw [← hV]; exact hsame (hlt hl)
      have dV : V.heap[w.heap.size]? = some (.deferred (some [])) := by rw [← hV]; exact (hother (by omega)).trans hd
      have kV : Kp W V := by rw [← hV]; exact hKb _ _ _ _ (by omega) hl rfl rfl
      have iV : I pre V := by rw [← hV]; exact hI.putObj _ hi (by omega) hl (hnx rfl)
      have aV : Ax x a' V := by rw [← hV]; exact (hAx x a').putObj (s := ()) _ hax (by omega) hl rfl
      have fV : KeepsX ex W1.heap.size W0 V := (KeepsX.grown hgr (fun j e => by cases e)).trans (by rw [← hV]; exact KeepsX.putObj _ _ (by omega) _)
      rw [hV]
      refine wpIn_mono (hbody _ pre x a' V (by omega) ⟨_, lV⟩ iV aV hsp hlen) ?_
      have fin : ∀ (j : Option Code) (U : World), KeepsX ex w.heap.size V U →
          (Instr.endRound (w.heap.size + 1) j).run P U = .ok (.bool j.isNone) (U.putObj (w.heap.size + 1) (.loop (R (if j.isNone then .ready else .done) j))) ∧
          U.heap[w.heap.size + 1]? = some (.loop { R .ready none with state := .busy }) ∧
          (U.putObj (w.heap.size + 1) (.loop (R (if j.isNone then .ready else .done) j))).heap[w.heap.size + 1]? = some (.loop (R (if j.isNone then .ready else .done) j)) ∧
          (U.putObj (w.heap.size + 1) (.loop (R (if j.isNone then .ready else .done) j))).heap[w.heap.size]? = some (.deferred (some [])) := by
        intro j U hk
        have hu := hk.same _ _ (by omega) lV (hnx rfl)
        have he := run_endRound (P := P) j hu
        rw [hR] at he ⊢
        exact ⟨he, by rw [hR] at hu; exact hu, hsame (hlt hu), (hother (by omega)).trans (hk.same _ _ (Nat.le_refl _) dV (hnx rfl))⟩
      have out : ∀ (c : Code) (U : World), KeepsX ex w.heap.size V U → Ix c (pre ++ [x]) U → ∃ r W', (Instr.endRound (w.heap.size + 1) (some c)).run P U = .ok r W' ∧ KeepsX ex W1.heap.size W0 W' ∧ (r = .bool false ∧ ∃ c, Ix c (pre ++ [x]) W' ∧ W'.heap[w.heap.size + 1]? = some (.loop (R .done (some c))) ∧ W'.heap[w.heap.size]? = some (.deferred (some []))) := by
        intro c U hk hix
        obtain ⟨hr, hu, hu2, hd2⟩ := fin (some c) U hk
        exact ⟨_, _, hr, (fV.trans (hk.lift (by omega))).trans (KeepsX.putObj _ _ (by omega) _), rfl, c, (hIx c).putObj _ hix (by omega) hu (hnx rfl), hu2, hd2⟩
      intro e a3 U hp
      match e, hp with
      | .normal, ⟨hk, hkp, hi3⟩ =>
        obtain ⟨hr, hu, hu2, hd2⟩ := fin none U hk
        exact ⟨_, _, hr, .inl ⟨rfl, ⟨hI.putObj _ hi3 (by omega) hu (hnx rfl), hu2, hd2⟩, hKt hk0 (hKt (hKt kV hkp) (hKb _ _ _ _ (by omega) hu rfl rfl)), (fV.trans (hk.lift (by omega))).trans (KeepsX.putObj _ _ (by omega) _)⟩⟩
      | .ret, ⟨hk, hix⟩ => obtain ⟨r, W', h1, h2, rfl, h3⟩ := out .ret U hk hix; exact ⟨_, W', h1, .inr ⟨rfl, h3, h2⟩⟩
      | .exit id, ⟨hk, hix⟩ => obtain ⟨r, W', h1, h2, rfl, h3⟩ := out (.exit id) U hk hix; exact ⟨_, W', h1, .inr ⟨rfl, h3, h2⟩⟩
      | .goto t, ⟨hk, hix⟩ => obtain ⟨r, W', h1, h2, rfl, h3⟩ := out (.goto t) U hk hix; exact ⟨_, W', h1, .inr ⟨rfl, h3, h2⟩⟩
      | .panic _, hp => exact hp.elim
      | .outgrown, hp => exact hp.elim
    · -- behind the iterator
      rintro e W2 ⟨⟨v, rfl⟩, (⟨xs, hS, hi, hl, hd⟩ | ⟨pre, hSp, c, hi, hl, hd⟩)⟩
      · have he := run_endLoop (P := P) hl (by rw [hR]; simp)
        rw [hR] at he
        exact ⟨none, _, he, hdone _ xs _ (Nat.le_refl _) hS (hI.putObj _ hi (by omega) hl (hnx rfl)) ((hother (by omega)).trans hd)⟩
      · have he := run_endLoop (P := P) hl (by rw [hR]; simp)
        rw [hR] at he
        exact ⟨some c, _, he, hstop _ c pre _ (Nat.le_refl _) hSp ((hIx c).putObj _ hi (by omega) hl (hnx rfl)) ((hother (by omega)).trans hd)⟩


end Go.Proofs.Ytmfndimejnbgkaa.Law
