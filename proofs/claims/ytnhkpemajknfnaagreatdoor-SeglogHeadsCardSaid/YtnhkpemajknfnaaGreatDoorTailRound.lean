/-
  A region that draws its order IN A ROUND of a loop's body at the wide fence: its first operations only read, its last ones stand in one forced order and may write: one walk serves every order. Of whatever program.
-/
import Derived.Test.YtnhkpemajknfnaaGreatDoorQuietTail
import Derived.Test.YtnhkpemajknfnaaGreatDoorQuietRound
import Derived.RangeFuncCalls
namespace Go.Proofs.YtnhkpemajknfnaaGreatDoor.Law
open Go Go.RowKit

section
variable {n l : Nat} {P : Program} {ops : Array Oper} {Q : Exit → Act → World → Prop}

theorem rowsIn_round {row : String} {args : Array Value} {w : World} {R : Value → World → Prop} (h : Rows P row args w R) : RowsIn (Fence.wide.inRound l) n P row args w R := by
  intro c cs _
  obtain ⟨v, w', r, s⟩ := h c cs
  exact ⟨v, w', r, stepsIn_wide.2 s⟩

theorem operIn_round {o : Oper} {a : Act} {w : World} {K : Act → World → Prop} (hnd : ∀ c, o.op ≠ .defer c) (h : o.wp P a w K Q) : o.wpIn (Fence.wide.inRound l) n P a w K Q := by
  refine ⟨fun _ _ => trivial, ?_⟩
  rw [Oper.semAt_plain (Fence.wide.inRound l) _ _ hnd]
  unfold Oper.wp at h
  generalize (execOp a.eval o).run P w = r at *
  cases r with
  | ok x w' =>
    cases x <;> simp only [Oper.upon] at h <;> simp only [Oper.uponIn]
    case enter f args =>
      refine ⟨fun e => (by cases e), (CallsIn.inRound l (callsIn_wide.2 h)).mono fun e w'' he => ?_⟩
      cases e <;> exact he
    case row row args => exact ⟨fun e => (by cases e), rowsIn_round h⟩
    all_goals exact h
  | halt x w' => cases x <;> simp only [Oper.upon] at h <;> simp only [Oper.uponIn] <;> exact h

theorem anyIn_round (hro : noDefer ops.toList = true) (hQ : ¬ LetsOut Q) {md : Region.Mode} : ∀ (fuel : Nat) (listed : Array Bool) (a : Act) (w : World), wpAny P md ops Q fuel listed a w → wpAnyIn (Fence.wide.inRound l) n P md ops Q fuel listed a w
  | 0, _, _, _, h => h
  | fuel + 1, listed, a, w, h => by
    refine ⟨h.1, fun i hi => ?_⟩
    have h2 := h.2 i hi
    unfold wpOp at h2
    unfold wpOpIn
    split
    · rename_i ho; simp only [ho] at h2; exact anyIn_round hro hQ fuel _ _ _ h2
    · rename_i o ho
      simp only [ho] at h2
      split
      · rename_i hw
        simp only [hw, if_true] at h2
        rcases h2 with h2 | h2
        · exact operIn_round (noDefer_spec hro o (Array.mem_toList_iff.2 (Array.mem_of_getElem? ho))) (Oper.wp_mono (fun a w => anyIn_round hro hQ fuel _ a w) h2)
        · exact absurd h2.2 hQ
      · rename_i hw
        simp only [hw] at h2
        exact ⟨fun _ _ => trivial, anyIn_round hro hQ fuel _ _ _ h2⟩

/-- In a round as outside of it: the walk over all orders at a post that is met in one way only. -/
theorem wpIn_round_any {id : Nat} {a : Act} {w : World} {ol : List Oper} (hro : noDefer ol = true) (hm : P.follows .mixedOrders = true)
    (h : ∀ QQ : Exit → Act → World → Prop, (∀ a' w', Q .normal a' w' → QQ .normal a' w') → (∀ c a' w', ¬ QQ (.panic c) a' w') → wpAny P .any ol.toArray QQ ol.toArray.size (Array.replicate ol.toArray.size false) a w.drew) : (Code.region id ol.toArray true).wpIn (Fence.wide.inRound l) n P Q a w := by
  refine wpIn_mono (Q := fun e a' w' => e = .normal ∧ Q e a' w') (wpIn_region_any hm ?_) (fun e a w h => h.2)
  refine anyIn_round (by simpa using hro) ?_ _ _ _ _ (h _ (fun _ _ h => ⟨rfl, h⟩) (fun _ _ _ h => by cases h.1))
  rintro ⟨_, _, hl, _⟩
  cases hl

/-- What is left stands in one forced order. -/
theorem wpAny_seq_lit {ol : List Oper} (k : Nat) {fuel : Nat} {listed : Array Bool} {a : Act} {w : World} (hf : (ol.drop k).length = fuel) (hB : Region.seqB .any ol.toArray fuel k listed = true) (h : wpList P ol.toArray Q (ol.drop k) a w) :
    wpAny P .any ol.toArray Q fuel listed a w := by
  subst hf
  exact wpAny_of_seq (ol.drop k) k listed a w (fun j => by simp [List.getElem?_drop]) hB h

/-- One walk serves every order. -/
theorem wpIn_round_quiet_tail {id : Nat} {C : World → Prop} {a : Act} {w : World} {ol : List Oper} (k : Nat) (hro : noDefer ol = true) (hm : P.follows .mixedOrders = true) (hB : Region.lexTailB .any ol.toArray k = true) (hC : C { w with drawn := w.drawn + 1 })
    (h : ∀ QQ : Exit → Act → World → Prop, (∀ a' w', Q .normal a' w' → QQ .normal a' w') → wpQuiet P ol.toArray C (fun a' => ∀ w', C w' → wpList P ol.toArray QQ (ol.drop k) a' w') (ol.take k) a) : (Code.region id ol.toArray true).wpIn (Fence.wide.inRound l) n P Q a w := by
  have h := h (fun e a' w' => e = .normal ∧ Q e a' w') (fun _ _ h => ⟨rfl, h⟩)
  simp only [Region.lexTailB, Bool.and_eq_true, decide_eq_true_eq] at hB
  obtain ⟨⟨⟨⟨hsel, hn⟩, hs⟩, hc⟩, hlex⟩ := hB
  have hn' : k < ol.length := by simpa using hn
  have htl : (ol.take k).length = k := by simp; omega
  have hdl : (ol.drop k).length = ol.toArray.size - k := by simp
  have inv0 : HeadInv .any ol.toArray k (Array.replicate ol.toArray.size false) :=
    ⟨by simp, fun j oj _ hl => (by rw [getD_replicate_false] at hl; cases hl), fun t _ ht => getD_in (by simpa using ht) (getD_replicate_false _ _)⟩
  have H := headQ_lex (C := C) (md := .any) (g := ol.toArray.size - k) hsel hs hc hn (ol.take k) 0 _ a (fun j hj => by
    have hj' : j < k := by rw [htl] at hj; exact hj
    simp [hj']) (by simpa using htl) inv0 (by rw [htl]; exact hlex) h
  refine wpIn_mono (Q := fun e a' w' => e = .normal ∧ Q e a' w') (wpIn_region_any hm ?_) (fun e a w h => h.2)
  have := any_of_headQ (Q' := fun e a' w' => e = .normal ∧ Q e a' w') (g := ol.toArray.size - k) (fun listed a' w' hw' hL => by
    have := wpAny_of_seq (md := .any) (Q' := fun e a' w' => e = .normal ∧ Q e a' w') (ol.drop k) k listed a' w' (fun j => by simp [List.getElem?_drop]) (by rw [hdl]; exact hL.1) (hL.2 w' hw')
    rwa [hdl] at this) _ _ _ _ hC H
  rw [htl, show k + (ol.toArray.size - k) = ol.toArray.size by omega] at this
  refine anyIn_round (by simpa using hro) ?_ _ _ _ _ this
  rintro ⟨_, _, hl, _⟩
  cases hl
end

end Go.Proofs.YtnhkpemajknfnaaGreatDoor.Law
