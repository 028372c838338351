/-
  Contract of the document's SameState.
-/
import Derived.Test.YtmfndimejnbgkaaModelSame
namespace Go.Proofs.Ytmfndimejnbgkaa.Model
open Go Go.RowKit Go.Lib Go.Sort Go.Shelf Go.Maps Go.Proofs.Ytmfndimejnbgkaa.Law Go.Proofs.Ytmfndimejnbgkaa.Graph Go.Proofs.Ytmfndimejnbgkaa.Fold

/-- The same lists; one that isn't there is the empty one. -/
def SameL (l m : List (List Pr)) : Prop := ∀ i : Nat, l.getD i [] = m.getD i []
/-- The list at a place, as a variable holds it. -/
theorem FoldsAt.pick {S : Nat → Prop} {W : World} {A : Option Addr} {len cap : Nat} {l : List (List Pr)} (h : FoldsAt S W (.slice A len cap) l) (hl : l.length = len) (k : Nat) :
    ∃ xA xn xc, TwoAt pk pv S W (.slice xA xn xc) (l.getD k []) ∧ (¬ k < len → xA = none ∧ xn = 0 ∧ xc = 0) ∧ (k < len → ∃ b off, A = some ⟨b, off, none⟩ ∧ W.cell? ⟨b, off + k, none⟩ = some (.slice xA xn xc)) := by
  by_cases hk : k < len
  · obtain ⟨b, off, e, _, hc⟩ := h.at (by omega)
    have hk' : k < l.length := by omega
    obtain ⟨u, hu, ht⟩ := hc k l[k] (List.getElem?_eq_getElem hk')
    obtain ⟨xA, xc, rfl, _⟩ := ht.form
    refine ⟨xA, _, xc, ?_, fun hn => absurd hk hn, fun _ => ⟨b, off, e, hu⟩⟩
    rw [List.getD_eq_getElem?_getD, List.getElem?_eq_getElem hk']
    exact ht
  · refine ⟨none, 0, 0, ?_, fun _ => ⟨rfl, rfl, rfl⟩, fun h' => absurd h' hk⟩
    rw [List.getD_eq_getElem?_getD, List.getElem?_eq_none (by omega)]
    exact TwoAt.nil _ _

end Go.Proofs.Ytmfndimejnbgkaa.Model
