/-
  A region that draws its order: its first operations only read, in every world of a class; calls follow that may make memory and keep the class; a store that waits for all of them ends it and may leave the class: one walk serves every order.
-/
import Derived.OrdersHeld
import Derived.StillTail
import Derived.Tactics
import Derived.Tactics2
import Derived.KernelRfl
namespace Go.Proofs.Ytmfndimejnbgkaa.Law
open Go

section
variable {P : Program} {ops : Array Oper} {Q : Exit → Act → World → Prop} {md : Region.Mode} {C : World → Prop}

/-- Whatever order is picked from here on; behind every operation but number m the class holds. -/
def wpAnyM (P : Program) (md : Region.Mode) (ops : Array Oper) (Q : Exit → Act → World → Prop) (C : World → Prop) (m : Nat) : Nat → Array Bool → Act → World → Prop
  | 0, listed, a, w => Region.ready md ops listed = [] ∧ Q .normal a w
  | f + 1, listed, a, w => (Region.ready md ops listed = [] → Q .normal a w) ∧ ∀ i ∈ Region.ready md ops listed, wpOp P ops Q i (fun a' w' => (i ≠ m → C w') ∧ wpAnyM P md ops Q C m f (listed.setIfInBounds i true) a' w') a w

theorem wpAny_of_M {m : Nat} : ∀ (f : Nat) (listed : Array Bool) (a : Act) (w : World), wpAnyM P md ops Q C m f listed a w → wpAny P md ops Q f listed a w
  | 0, _, _, _, h => h
  | f + 1, _, _, _, h => ⟨h.1, fun i hi => wpOp_mono (fun a' w' h' => wpAny_of_M f _ a' w' h'.2) (h.2 i hi)⟩

/-- Number m waits for number i. -/
theorem waits_ready {m i : Nat} (h : Region.waitsFor md ops m i = true) {listed : Array Bool} (hun : listed.getD i true = false) : m ∉ Region.ready md ops listed := fun hr => by
  obtain ⟨_, om, hom, hall⟩ := mem_ready.1 hr
  obtain ⟨o', ho', e, he, hb, hon⟩ := Region.waitsFor_spec h
  have e1 : o' = om := Option.some.inj (ho'.symm.trans hom)
  subst e1
  have h2 := hall e he hb
  rw [hon, getD_both hun] at h2
  cases h2

theorem wpAnyM_first {m i : Nat} {oi : Oper} {v : Value} (hi : ops[i]? = some oi) (hsel : ∀ (j : Nat) (o : Oper) cs b, ops[j]? = some o → o.op ≠ .select cs b) (hQ : ∀ c a w, Q (.panic c) (a.put oi.dst v) w → Q (.panic c) a w) (him : i ≠ m) (hm : Region.waitsFor md ops m i = true) :
    ∀ (f : Nat) (listed : Array Bool) (a : Act) (w : World),
      (∀ j oj, ops[j]? = some oj → j ≠ i → listed.getD j true = false → (∀ e ∈ oj.after, Region.binds md e = true → e.on ≠ i) → oi.apart ops oj = true) →
      i ∈ Region.ready md ops listed → YieldsIf P ops C oi v a → C w →
      wpAnyM P md ops Q C m f (listed.setIfInBounds i true) (a.put oi.dst v) w → wpAnyM P md ops Q C m (f + 1) listed a w := by
  intro f
  induction f with
  | zero =>
    intro listed a w _ hr hy hC H
    refine ⟨fun h => (by rw [h] at hr; cases hr), fun j hj => ?_⟩
    by_cases hji : j = i
    · subst hji; exact hy.wpOp hi hC ⟨fun _ => hC, H⟩
    · have := ready_mono hj hji
      rw [H.1] at this
      cases this
  | succ f ih =>
    intro listed a w hfree hr hy hC H
    have hun := (mem_ready.1 hr).1
    refine ⟨fun h => (by rw [h] at hr; cases hr), fun j hj => ?_⟩
    by_cases hji : j = i
    · subst hji; exact hy.wpOp hi hC ⟨fun _ => hC, H⟩
    · have hjm : j ≠ m := fun e => waits_ready hm hun (e ▸ hj)
      have h1 := H.2 j (ready_mono hj hji)
      obtain ⟨hjun, oj, hoj, hall⟩ := mem_ready.1 hj
      have hnot : ∀ e ∈ oj.after, Region.binds md e = true → e.on ≠ i := fun e he hb heq => by
        have h1 := hall e he hb
        rw [heq, getD_both hun] at h1
        cases h1
      have h2 := wpOp_putIf hoj (hfree j oj hoj hji hjun hnot) (fun cs b => hsel i oi cs b hi) (fun cs b => hsel j oj cs b hoj) hQ hy h1
      have hfree' : ∀ k ok, ops[k]? = some ok → k ≠ i → (listed.setIfInBounds j true).getD k true = false → (∀ e ∈ ok.after, Region.binds md e = true → e.on ≠ i) → oi.apart ops ok = true := fun k ok hk hki hun2 hno => by
        refine hfree k ok hk hki ?_ hno
        by_cases hjk : j = k
        · subst hjk; exact hjun
        · rw [getD_set_ne true hjk] at hun2; exact hun2
      refine wpOp_mono (fun a' w' h3 => ⟨h3.2.1, ih (listed.setIfInBounds j true) a' w' hfree' (ready_mono hr (Ne.symm hji)) h3.1 (h3.2.1 hjm) ?_⟩) h2
      rw [Array.setIfInBounds_comm _ _ hji]
      exact h3.2.2

/-- Each of the operations, by their numbers, yields its value in every world of the class. -/
def heldI (P : Program) (ops : Array Oper) (C : World → Prop) (L : Act → Prop) : List Nat → Act → Prop
  | [], a => L a
  | k :: l, a => ∃ o v, ops[k]? = some o ∧ YieldsIf P ops C o v a ∧ heldI P ops C L l (a.put o.dst v)
theorem heldI_step {L : Act → Prop} {k : Nat} {o : Oper} {l : List Nat} {a : Act} (v : Value) (hk : ops[k]? = some o) (hw : Region.wanted o (yielded ops a.tmps) = true) (h : ∀ w, C w → (execOp a.eval o).run P w = .ok (.value v) w) (hr : heldI P ops C L l (a.put o.dst v)) : heldI P ops C L (k :: l) a :=
  ⟨o, v, hk, .inl ⟨hw, h⟩, hr⟩
theorem heldI_nil {L : Act → Prop} {a : Act} (h : L a) : heldI P ops C L [] a := h

/-- What is asked behind an operation that runs to its end. -/
def onNormal (Q : Exit → Act → World → Prop) (K : Act → World → Prop) : Exit → Act → World → Prop
  | .normal, a, w => K a w
  | .exit i, a, w => Q (.exit i) a w
  | .goto l, a, w => Q (.goto l) a w
  | .ret, a, w => Q .ret a w
  | .panic c, a, w => Q (.panic c) a w
  | .outgrown, a, w => Q .outgrown a w
/-- The tail, one operation behind the other; the class holds behind each but the last. -/
def seqI (P : Program) (ops : Array Oper) (Q : Exit → Act → World → Prop) (C : World → Prop) : List Nat → Act → World → Prop
  | [], a, w => Q .normal a w
  | [k], a, w => ∃ o, ops[k]? = some o ∧ wpList P ops Q [o] a w
  | k :: k' :: l, a, w => ∃ o, ops[k]? = some o ∧ wpList P ops (onNormal Q fun a' w' => C w' ∧ seqI P ops Q C (k' :: l) a' w') [o] a w
theorem seqI_last {k : Nat} {o : Oper} {a : Act} {w : World} (hk : ops[k]? = some o) (h : wpList P ops Q [o] a w) : seqI P ops Q C [k] a w := ⟨o, hk, h⟩
theorem seqI_step {k k' : Nat} {l : List Nat} {o : Oper} {a : Act} {w : World} (hk : ops[k]? = some o) (h : wpList P ops (onNormal Q fun a' w' => C w' ∧ seqI P ops Q C (k' :: l) a' w') [o] a w) : seqI P ops Q C (k :: k' :: l) a w := ⟨o, hk, h⟩

theorem wpOp_of_list {i : Nat} {o : Oper} (hi : ops[i]? = some o) {K : Act → World → Prop} {a : Act} {w : World} (h : wpList P ops (onNormal Q K) [o] a w) : wpOp P ops Q i K a w := by
  unfold wpOp
  simp only [hi]
  exact h

/-- The tail comes in just one order. -/
def tailB (md : Region.Mode) (ops : Array Oper) : List Nat → Array Bool → Bool
  | [], listed => (Region.ready md ops listed).isEmpty
  | k :: l, listed => decide (Region.ready md ops listed = [k]) && tailB md ops l (listed.setIfInBounds k true)
/-- What is ahead may come up in this order, each taken first. -/
def orderB (md : Region.Mode) (ops : Array Oper) (ts : List Nat) : List Nat → Array Bool → Bool
  | [], listed => tailB md ops ts listed
  | k :: l, listed => (Region.ready md ops listed).contains k && Region.free md ops listed k && orderB md ops ts l (listed.setIfInBounds k true)

theorem wpAnyM_seq {m : Nat} : ∀ (l : List Nat) (listed : Array Bool) (a : Act) (w : World), l.getLast? = some m → tailB md ops l listed = true → seqI P ops Q C l a w → wpAnyM P md ops Q C m l.length listed a w
  | [], _, _, _, hm, _, _ => by simp at hm
  | [k], listed, a, w, hm, hB, h => by
    obtain ⟨o, h0, h⟩ := h
    simp only [tailB, Bool.and_eq_true, decide_eq_true_eq] at hB
    refine ⟨fun h1 => (by rw [hB.1] at h1; cases h1), fun i hi => ?_⟩
    rw [hB.1] at hi
    have hik : i = k := by simpa using hi
    subst hik
    have hkm : i = m := by simpa using hm
    have hw : wpOp P ops Q i (wpList P ops Q []) a w := by unfold wpOp; simp only [h0]; exact h
    exact wpOp_mono (fun a' w' h' => ⟨fun e => absurd hkm e, by simpa using hB.2, h'⟩) hw
  | k :: k' :: l, listed, a, w, hm, hB, h => by
    obtain ⟨o, h0, h⟩ := h
    rw [List.length_cons]
    rw [tailB] at hB
    simp only [Bool.and_eq_true, decide_eq_true_eq] at hB
    refine ⟨fun h1 => (by rw [hB.1] at h1; cases h1), fun i hi => ?_⟩
    rw [hB.1] at hi
    have hik : i = k := by simpa using hi
    subst hik
    exact wpOp_mono (fun a' w' h' => ⟨fun _ => h'.1, wpAnyM_seq (k' :: l) _ a' w' (by simpa using hm) hB.2 h'.2⟩) (wpOp_of_list h0 h)

theorem wpAnyM_order {m : Nat} {ts : List Nat} {L : Act → Prop} (hsel : Region.noSelect ops = true) (hQ : ∀ c a d v w, Q (.panic c) (Act.put a d v) w → Q (.panic c) a w) {w : World} (hC : C w)
    (hL : ∀ listed a, tailB md ops ts listed = true → L a → wpAnyM P md ops Q C m ts.length listed a w) :
    ∀ (l : List Nat) (listed : Array Bool) (a : Act), (∀ k ∈ l, k ≠ m ∧ Region.waitsFor md ops m k = true) → orderB md ops ts l listed = true → heldI P ops C L l a → wpAnyM P md ops Q C m (l.length + ts.length) listed a w
  | [], listed, a, _, hB, h => by
    rw [List.length_nil, Nat.zero_add]
    exact hL listed a hB h
  | k :: l, listed, a, hl, hB, h => by
    simp only [orderB, Bool.and_eq_true] at hB
    obtain ⟨⟨hr, hf⟩, hB'⟩ := hB
    have hr' : k ∈ Region.ready md ops listed := by simpa using hr
    obtain ⟨o, v, h0, hy, hK⟩ := h
    obtain ⟨h1, h2⟩ := hl k (by simp)
    rw [List.length_cons, show l.length + 1 + ts.length = (l.length + ts.length) + 1 by omega]
    exact wpAnyM_first h0 (Region.noSelect_spec hsel) (fun c a w => hQ c a o.dst v w) h1 h2 _ listed a w (Region.free_spec h0 hf) hr' hy hC
      (wpAnyM_order hsel hQ hC hL l _ _ (fun j hj => hl j (List.mem_cons_of_mem _ hj)) hB' hK)

/-- The closed part of the condition: those of hs are ahead, in this order; those of ts come one behind the other; the last of them waits for all that is ahead. -/
def heldTailB (md : Region.Mode) (ops : Array Oper) (hs ts : List Nat) (m : Nat) : Bool :=
  Region.noSelect ops && decide (hs.length + ts.length = ops.size) && decide (ts.getLast? = some m) && hs.all (fun i => decide (i ≠ m) && Region.waitsFor md ops m i) && orderB md ops ts hs (Array.replicate ops.size false)

/-- One walk serves every order. -/
theorem wp_region_held_tail {id : Nat} {Q : Exit → Act → World → Prop} {a : Act} {w : World} (hs ts : List Nat) (m : Nat) (hm : P.follows .mixedOrders = true) (hB : heldTailB .any ops hs ts m = true) (hQ : ∀ c a d v w, Q (.panic c) (Act.put a d v) w → Q (.panic c) a w) (hC : C w.drew)
    (h : heldI P ops C (fun a' => seqI P ops Q C ts a' w.drew) hs a) : (Code.region id ops true).wp P Q a w := by
  simp only [heldTailB, Bool.and_eq_true, decide_eq_true_eq, List.all_eq_true] at hB
  obtain ⟨⟨⟨⟨hsel, hn⟩, hlast⟩, hwt⟩, hord⟩ := hB
  have H := wpAnyM_order (P := P) (Q := Q) (C := C) (m := m) (ts := ts) (md := .any) (ops := ops) hsel hQ hC (L := fun a' => seqI P ops Q C ts a' w.drew)
    (fun listed a' hs ha => wpAnyM_seq ts listed a' w.drew hlast hs ha) hs (Array.replicate ops.size false) a hwt hord h
  rw [hn] at H
  exact wp_region_any hm (wpAny_of_M _ _ _ _ H)
end

end Go.Proofs.Ytmfndimejnbgkaa.Law
