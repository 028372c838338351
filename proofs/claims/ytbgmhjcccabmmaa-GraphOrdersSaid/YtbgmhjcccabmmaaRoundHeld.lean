/-
  XHeldTail's law in a round of a loop's body at the wide fence: operations that only read, in a class of worlds, then a tail in one order. Of whatever program.
-/
import Derived.Test.YtbgmhjcccabmmaaHeldTail
import Derived.Test.YtbgmhjcccabmmaaTailRound
namespace Go.Proofs.Ytbgmhjcccabmmaa.Law
open Go Go.RowKit

section
variable {n l : Nat} {P : Program} {ops : Array Oper} {Q : Exit → Act → World → Prop} {C : World → Prop}

theorem heldI_skip {L : Act → Prop} {k : Nat} {o : Oper} {l : List Nat} {a : Act} (hk : ops[k]? = some o) (hw : Region.wanted o (yielded ops a.tmps) = false) (hr : heldI P ops C L l (a.put o.dst undef)) : heldI P ops C L (k :: l) a :=
  ⟨o, undef, hk, .inr ⟨hw, rfl⟩, hr⟩

theorem wpIn_round_held_tail {id : Nat} {a : Act} {w : World} {ol : List Oper} (hs ts : List Nat) (m : Nat) (hro : noDefer ol = true) (hm : P.follows .mixedOrders = true) (hB : heldTailB .any ol.toArray hs ts m = true) (hC : C w.drew)
    (h : ∀ QQ : Exit → Act → World → Prop, (∀ a' w', Q .normal a' w' → QQ .normal a' w') → heldI P ol.toArray C (fun a' => seqI P ol.toArray QQ C ts a' w.drew) hs a) : (Code.region id ol.toArray true).wpIn (Fence.wide.inRound l) n P Q a w := by
  refine wpIn_round_any hro hm fun QQ hQQ hnp => ?_
  have h := h QQ hQQ
  simp only [heldTailB, Bool.and_eq_true, decide_eq_true_eq, List.all_eq_true] at hB
  obtain ⟨⟨⟨⟨hsel, hn⟩, hlast⟩, hwt⟩, hord⟩ := hB
  have H := wpAnyM_order (P := P) (Q := QQ) (C := C) (m := m) (ts := ts) (md := .any) (ops := ol.toArray) hsel (fun c a d v w h => absurd h (hnp _ _ _)) hC (L := fun a' => seqI P ol.toArray QQ C ts a' w.drew)
    (fun listed a' hs ha => wpAnyM_seq ts listed a' w.drew hlast hs ha) hs (Array.replicate ol.toArray.size false) a hwt hord h
  rw [hn] at H
  exact wpAny_of_M _ _ _ _ H
end

end Go.Proofs.Ytbgmhjcccabmmaa.Law
