/-
  A region that draws its order, as in HeldTail, with one operation more that waits for nothing and may come anywhere ahead of the last one.
-/
import Derived.Test.YtlcmnemneghohaaHeldTail
namespace Go.Proofs.Ytlcmnemneghohaa.Law
open Go

section
variable {P : Program} {ops : Array Oper} {Q : Exit → Act → World → Prop} {md : Region.Mode} {C : World → Prop}

/-- The tail, with number f anywhere ahead of its last one. -/
def floatI (P : Program) (ops : Array Oper) (Q : Exit → Act → World → Prop) (C : World → Prop) (f : Nat) : List Nat → Act → World → Prop
  | [], _, _ => True
  | [k], a, w => ∃ o, ops[f]? = some o ∧ wpList P ops (onNormal Q fun a' w' => C w' ∧ seqI P ops Q C [k] a' w') [o] a w
  | k :: k' :: l, a, w => (∃ o, ops[f]? = some o ∧ wpList P ops (onNormal Q fun a' w' => C w' ∧ seqI P ops Q C (k :: k' :: l) a' w') [o] a w) ∧
      ∃ o, ops[k]? = some o ∧ wpList P ops (onNormal Q fun a' w' => C w' ∧ floatI P ops Q C f (k' :: l) a' w') [o] a w
theorem floatI_last {f k : Nat} {o : Oper} {a : Act} {w : World} (hk : ops[f]? = some o) (h : wpList P ops (onNormal Q fun a' w' => C w' ∧ seqI P ops Q C [k] a' w') [o] a w) : floatI P ops Q C f [k] a w := ⟨o, hk, h⟩
theorem floatI_step {f k k' : Nat} {l : List Nat} {o o' : Oper} {a : Act} {w : World} (hf : ops[f]? = some o) (hk : ops[k]? = some o') (h : wpList P ops (onNormal Q fun a' w' => C w' ∧ seqI P ops Q C (k :: k' :: l) a' w') [o] a w)
    (h' : wpList P ops (onNormal Q fun a' w' => C w' ∧ floatI P ops Q C f (k' :: l) a' w') [o'] a w) : floatI P ops Q C f (k :: k' :: l) a w := ⟨⟨o, hf, h⟩, ⟨o', hk, h'⟩⟩

/-- What may come up. -/
def floatB (md : Region.Mode) (ops : Array Oper) (f : Nat) : List Nat → Array Bool → Bool
  | [], _ => false
  | [k], listed => decide (Region.ready md ops listed = [f]) && tailB md ops [k] (listed.setIfInBounds f true)
  | k :: k' :: l, listed => decide (Region.ready md ops listed ≠ []) && (Region.ready md ops listed).all (fun i => decide (i = k) || decide (i = f)) && tailB md ops (k :: k' :: l) (listed.setIfInBounds f true) && floatB md ops f (k' :: l) (listed.setIfInBounds k true)

theorem wpAnyM_float {m f : Nat} : ∀ (l : List Nat) (listed : Array Bool) (a : Act) (w : World), l.getLast? = some m → floatB md ops f l listed = true → floatI P ops Q C f l a w → wpAnyM P md ops Q C m (l.length + 1) listed a w
  | [], _, _, _, hm, _, _ => by simp at hm
  | [k], listed, a, w, hm, hB, h => by
    obtain ⟨o, h0, h⟩ := h
    simp only [floatB, Bool.and_eq_true, decide_eq_true_eq] at hB
    refine ⟨fun h1 => (by rw [hB.1] at h1; cases h1), fun i hi => ?_⟩
    rw [hB.1] at hi
    have hik : i = f := by simpa using hi
    subst hik
    exact wpOp_mono (fun a' w' h' => ⟨fun _ => h'.1, wpAnyM_seq [k] _ a' w' hm hB.2 h'.2⟩) (wpOp_of_list h0 h)
  | k :: k' :: l, listed, a, w, hm, hB, h => by
    obtain ⟨⟨o, h0, h1⟩, ⟨o', h0', h2⟩⟩ := h
    rw [floatB] at hB
    simp only [Bool.and_eq_true, decide_eq_true_eq, List.all_eq_true, Bool.or_eq_true] at hB
    obtain ⟨⟨⟨hne, hall⟩, ht⟩, hf⟩ := hB
    rw [List.length_cons]
    refine ⟨fun h1 => absurd h1 hne, fun i hi => ?_⟩
    rcases hall i hi with rfl | rfl
    · exact wpOp_mono (fun a' w' h' => ⟨fun _ => h'.1, wpAnyM_float (k' :: l) _ a' w' (by simpa using hm) hf h'.2⟩) (wpOp_of_list h0' h2)
    · exact wpOp_mono (fun a' w' h' => ⟨fun _ => h'.1, wpAnyM_seq (k :: k' :: l) _ a' w' hm ht h'.2⟩) (wpOp_of_list h0 h1)

/-- What is ahead may come up in this order, each taken first; behind it E. -/
def orderE (md : Region.Mode) (ops : Array Oper) (E : Array Bool → Bool) : List Nat → Array Bool → Bool
  | [], listed => E listed
  | k :: l, listed => (Region.ready md ops listed).contains k && Region.free md ops listed k && orderE md ops E l (listed.setIfInBounds k true)

theorem wpAnyM_orderE {m n : Nat} {E : Array Bool → Bool} {L : Act → Prop} (hsel : Region.noSelect ops = true) (hQ : ∀ c a d v w, Q (.panic c) (Act.put a d v) w → Q (.panic c) a w) {w : World} (hC : C w)
    (hL : ∀ listed a, E listed = true → L a → wpAnyM P md ops Q C m n listed a w) :
    ∀ (l : List Nat) (listed : Array Bool) (a : Act), (∀ k ∈ l, k ≠ m ∧ Region.waitsFor md ops m k = true) → orderE md ops E l listed = true → heldI P ops C L l a → wpAnyM P md ops Q C m (l.length + n) listed a w
  | [], listed, a, _, hB, h => by
    rw [List.length_nil, Nat.zero_add]
    exact hL listed a hB h
  | k :: l, listed, a, hl, hB, h => by
    simp only [orderE, Bool.and_eq_true] at hB
    obtain ⟨⟨hr, hf⟩, hB'⟩ := hB
    have hr' : k ∈ Region.ready md ops listed := by simpa using hr
    obtain ⟨o, v, h0, hy, hK⟩ := h
    obtain ⟨h1, h2⟩ := hl k (by simp)
    rw [List.length_cons, show l.length + 1 + n = (l.length + n) + 1 by omega]
    exact wpAnyM_first h0 (Region.noSelect_spec hsel) (fun c a w => hQ c a o.dst v w) h1 h2 _ listed a w (Region.free_spec h0 hf) hr' hy hC
      (wpAnyM_orderE hsel hQ hC hL l _ _ (fun j hj => hl j (List.mem_cons_of_mem _ hj)) hB' hK)

def heldFloatB (md : Region.Mode) (ops : Array Oper) (hs ts : List Nat) (f m : Nat) : Bool :=
  Region.noSelect ops && decide (hs.length + (ts.length + 1) = ops.size) && decide (ts.getLast? = some m) && hs.all (fun i => decide (i ≠ m) && Region.waitsFor md ops m i) && orderE md ops (floatB md ops f ts) hs (Array.replicate ops.size false)

/-- One walk for each place of number f. -/
theorem wp_region_held_float {id : Nat} {Q : Exit → Act → World → Prop} {a : Act} {w : World} (hs ts : List Nat) (f m : Nat) (hm : P.follows .mixedOrders = true) (hB : heldFloatB .any ops hs ts f m = true) (hQ : ∀ c a d v w, Q (.panic c) (Act.put a d v) w → Q (.panic c) a w) (hC : C w.drew)
    (h : heldI P ops C (fun a' => floatI P ops Q C f ts a' w.drew) hs a) : (Code.region id ops true).wp P Q a w := by
  simp only [heldFloatB, Bool.and_eq_true, decide_eq_true_eq, List.all_eq_true] at hB
  obtain ⟨⟨⟨⟨hsel, hn⟩, hlast⟩, hwt⟩, hord⟩ := hB
  have H := wpAnyM_orderE (P := P) (Q := Q) (C := C) (m := m) (n := ts.length + 1) (md := .any) (ops := ops) (E := floatB .any ops f ts) hsel hQ hC (L := fun a' => floatI P ops Q C f ts a' w.drew)
    (fun listed a' hs ha => wpAnyM_float ts listed a' w.drew hlast hs ha) hs (Array.replicate ops.size false) a hwt hord h
  rw [hn] at H
  exact wp_region_any hm (wpAny_of_M _ _ _ _ H)
end

end Go.Proofs.Ytlcmnemneghohaa.Law
