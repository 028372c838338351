/-
  The bulk of a reading bounds the length of a slice of bytes.
-/
import Derived.Test.YtnhkpemajknfnaaGreatDoorRows
import Derived.Test.YtnhkpemajknfnaaGreatDoorLaw
namespace Go.Proofs.YtnhkpemajknfnaaGreatDoor.Law
open Go Go.ChangeShapes Go.WideShapes Go.ChangeAt Go.RowKit

theorem bulkAll_length {H : Type} : ∀ ds : List (DataW H), (∀ d ∈ ds, 1 ≤ Rows.uptoBulk d) → ds.length ≤ Rows.uptoBulkAll ds
  | [], _ => by simp
  | d :: ds, h => by
    have h1 := h d (by simp)
    have h2 := bulkAll_length ds (fun x hx => h x (by simp [hx]))
    rw [Rows.uptoBulkAll]
    simp only [List.length_cons]
    omega

theorem open_bytes_bulk {H : Type} {enc : TypeId × Value → H} {P : Program} {t e : TypeId} {W : World} {v : Value} {d : DataW H} {ps : List MemPlace} {n : Nat} (ht : P.underlying t = some (.slice e)) (he : P.underlying e = some (.int .u8)) (hc : P.cellsOf e = 1)
    (h : DataW.Trod enc P W 0 (fun _ => true) true t v d ps) (hf : ∃ A cap, v = .slice A n cap) : n ≤ Rows.uptoBulk d := by
  obtain ⟨A, cap0, rfl⟩ := hf
  obtain ⟨fuel, hf⟩ := h
  rcases open_ints ht he hc hf with ⟨hcs, hx⟩ | ⟨a, len', cap', zs, hcs, _, hl, hm, hz, hx, hcell, hwz⟩
  · simp [Value.cells] at hcs
    omega
  · simp [Value.cells] at hcs
    obtain ⟨rfl, rfl, rfl⟩ := hcs
    simp only [Prod.mk.injEq] at hx
    obtain ⟨rfl, rfl⟩ := hx
    simp only [if_true] at hz
    rw [Rows.uptoBulk]
    have := bulkAll_length (lits (H := H) .u8 (zs.take n)) (fun d hd => by
      simp only [lits, List.mem_map] at hd
      obtain ⟨z, _, rfl⟩ := hd
      rw [Rows.uptoBulk]
      · exact Nat.le_refl _
      · intro bytes hb
        cases hb)
    simp only [lits, List.length_map, List.length_take] at this
    simp only [lits]
    omega

end Go.Proofs.YtnhkpemajknfnaaGreatDoor.Law
