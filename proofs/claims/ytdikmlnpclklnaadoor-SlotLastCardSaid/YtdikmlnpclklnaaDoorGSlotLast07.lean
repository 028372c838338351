/-
  Put together out of texts of one chain: what they hold stands ahead of each.
-/
import Derived.Test.YtdikmlnpclklnaaDoorGSlotLast05
import Derived.Test.YtdikmlnpclklnaaDoorGSlotLast06
/-
  A slice of texts that came in.
-/
namespace Go.Proofs.YtdikmlnpclklnaaDoor.Slot
open Go Go.ChangeShapes Go.WideShapes Go.ChangeAt Go.RowKit Go.Deep Go.Proofs.YtdikmlnpclklnaaDoor.Law

theorem open_texts {H : Type} {enc : TypeId × Value → H} {P : Program} {W : World} {t e : TypeId} {base : Nat} {v : Value} {d : DataW H} {ps : List MemPlace} (ht : P.underlying t = some (.slice e)) (he : P.underlying e = some .string) (hc : P.cellsOf e = 1)
    (hval : Value.okWide P W .any base t v) (h : DataW.Trod enc P W 0 (fun _ => true) true t v d ps) : ∃ l : List ByteArray, Texts W.heap.size W v l ∧ l.length ≤ maxLen := by
  obtain ⟨a1, len, cap, rfl⟩ := okWide_slice ht hval
  obtain ⟨fuel, hf⟩ := h
  rcases open_strings ht he hc hf with ⟨hcs, hx⟩ | ⟨a, len', cap', ss, hcs, _, hl, hm, hz, hx, hcell, hsz⟩
  · simp [Value.cells] at hcs
    obtain ⟨rfl, rfl, rfl⟩ := hcs
    exact ⟨[], ⟨none, 0, rfl, by simp, by simp, by simp⟩, by simp⟩
  · simp [Value.cells] at hcs
    obtain ⟨rfl, rfl, rfl⟩ := hcs
    simp only [if_true] at hz
    have hlen : (ss.take len).length = len := by simp; omega
    refine ⟨ss.take len, ⟨some a, cap, by rw [hlen], by rw [hlen]; exact hl, fun s hs => ?_, fun hp => ?_⟩, by rw [hlen]; omega⟩
    · have := hsz s (List.mem_of_mem_take hs)
      simp only [maxLen] at this
      omega
    · rw [hlen] at hp
      obtain ⟨ab, ao, spot⟩ := a
      have hspot : spot = none := by simpa [Addr.add] using World.cell?_spot (hcell 0 (by omega))
      subst hspot
      have h0 := hcell 0 (by omega)
      rw [Addr.add_lit] at h0
      refine ⟨ab, ao, rfl, block_lt_cell h0, fun j s hj => ?_⟩
      obtain ⟨hjl, hje⟩ := List.getElem?_eq_some_iff.1 hj
      rw [hlen] at hjl
      have hj' := hcell j (by omega)
      rw [Addr.add_lit] at hj'
      rw [hj']
      have hjs : j < ss.length := by omega
      rw [List.getElem_take] at hje
      simp [List.getD, hjs, hje]

end Go.Proofs.YtdikmlnpclklnaaDoor.Slot
