/-
  A slice of slices of bytes that came in: opened; its bulk.
-/
import Derived.Test.YtnhkpemajknfnaaGreatDoorBulk
import Derived.Test.YtnhkpemajknfnaaGreatDoorOps
import Derived.Deep.Matrix
namespace Go.Proofs.YtnhkpemajknfnaaGreatDoor.Law
open Go Go.ChangeShapes Go.WideShapes Go.ChangeAt Go.RowKit Go.Deep

/-- The slice value reads as these rows of bytes, all in blocks below n₀. -/
def ByteRows (n₀ : Nat) (W : World) (sv : Value) (bss : List (List Nat)) : Prop :=
  ∃ (A : Option Addr) (cap : Nat), sv = .slice A bss.length cap ∧ bss.length ≤ cap ∧
    (0 < bss.length → ∃ b off, A = some ⟨b, off, none⟩ ∧ b < n₀ ∧ ∀ j, j < bss.length → ∃ v, W.cell? ⟨b, off + j, none⟩ = some v ∧ Bytes n₀ W v (bss.getD j []))

theorem ByteRows.form {n₀ : Nat} {W : World} {sv : Value} {bss : List (List Nat)} : ByteRows n₀ W sv bss → ∃ A cap, sv = .slice A bss.length cap
  | ⟨A, cap, e, _⟩ => ⟨A, cap, e⟩
theorem ByteRows.cells {n₀ len cap : Nat} {W : World} {A : Option Addr} {bss : List (List Nat)} (h : ByteRows n₀ W (.slice A len cap) bss) (hp : 0 < len) :
    ∃ b off, A = some ⟨b, off, none⟩ ∧ b < n₀ ∧ ∀ j, j < len → ∃ v, W.cell? ⟨b, off + j, none⟩ = some v ∧ Bytes n₀ W v (bss.getD j []) := by
  obtain ⟨A', cap', e, _, hc⟩ := h
  simp only [Value.slice.injEq] at e
  obtain ⟨rfl, rfl, rfl⟩ := e
  exact hc hp

theorem bulkAll_map {H : Type} (D : Nat → DataW H) (f : Nat → Nat) : ∀ rs : List Nat, (∀ r ∈ rs, f r ≤ Rows.uptoBulk (D r)) → (rs.map f).sum ≤ Rows.uptoBulkAll (rs.map D)
  | [], _ => by simp
  | r :: rs, h => by
    have h1 := h r (by simp)
    have h2 := bulkAll_map D f rs (fun x hx => h x (by simp [hx]))
    simp only [List.map_cons, List.sum_cons]
    rw [Rows.uptoBulkAll]
    omega

theorem intRow_bulk {H : Type} (A : Option Addr) (L C : Nat) (zs : List Int) (hz : zs.length = C) (hl : L ≤ C) (hA : A = none → C = 0) : L + 1 ≤ Rows.uptoBulk (intRow (H := H) .u8 A L zs) := by
  cases A with
  | none =>
    have := hA rfl
    show L + 1 ≤ Rows.uptoBulk .nil
    rw [Rows.uptoBulk]
    omega
  | some a =>
    show L + 1 ≤ Rows.uptoBulk (.slice (lits .u8 (zs.take L)) (lits .u8 (zs.drop L)))
    rw [Rows.uptoBulk]
    have := bulkAll_length (lits (H := H) .u8 (zs.take L)) (fun d hd => by
      simp only [lits, List.mem_map] at hd
      obtain ⟨z, _, rfl⟩ := hd
      rw [Rows.uptoBulk]
      · exact Nat.le_refl _
      · intro bytes hb
        cases hb)
    simp only [lits, List.length_map, List.length_take] at this
    simp only [lits]
    omega

/-- A slice of slices of bytes that came in: its rows; all of their bytes and they themselves are within its bulk. -/
theorem open_byte_rows {H : Type} {enc : TypeId × Value → H} {P : Program} {t s e : TypeId} {base : Nat} {W : World} {v : Value} {d : DataW H} {ps : List MemPlace} (ht : P.underlying t = some (.slice s)) (hs : P.underlying s = some (.slice e)) (he : P.underlying e = some (.int .u8))
    (cs1 : P.cellsOf s = 1) (ce : P.cellsOf e = 1) (hval : Value.okWide P W .any base t v) (h : DataW.Trod enc P W 0 (fun _ => true) true t v d ps) :
    ∃ bss : List (List Nat), ByteRows W.heap.size W v bss ∧ (bss.map List.length).sum + bss.length ≤ Rows.uptoBulk d := by
  obtain ⟨a1, len0, cap0, rfl⟩ := okWide_slice ht hval
  obtain ⟨fuel, hf⟩ := h
  rcases open_int_rows ht hs he cs1 ce hf with ⟨hcs, hx⟩ | ⟨a, len, cap, A, L, C, Z, hcs, _, hl, hm, hx, hrows⟩
  · simp [Value.cells] at hcs
    obtain ⟨rfl, rfl, rfl⟩ := hcs
    exact ⟨[], ⟨none, 0, rfl, by simp, by simp⟩, by simp⟩
  · simp [Value.cells] at hcs
    obtain ⟨rfl, rfl, rfl⟩ := hcs
    simp only [Prod.mk.injEq] at hx
    obtain ⟨rfl, rfl⟩ := hx
    have hlen : ((List.range len0).map fun r => ((Z r).take (L r)).map Int.toNat).length = len0 := by simp
    have hget : ∀ j, j < len0 → ((List.range len0).map fun r => ((Z r).take (L r)).map Int.toNat).getD j [] = ((Z j).take (L j)).map Int.toNat := by
      intro j hj; simp [List.getD, hj]
    refine ⟨(List.range len0).map fun r => ((Z r).take (L r)).map Int.toNat, ⟨some a, cap0, by rw [hlen], by rw [hlen]; exact hl, fun hpos => ?_⟩, ?_⟩
    · rw [hlen] at hpos ⊢
      obtain ⟨ab, ao, spot⟩ := a
      have hspot : spot = none := by simpa [Addr.add] using World.cell?_spot (hrows 0 (by omega)).1
      subst hspot
      have h0 := (hrows 0 (by omega)).1
      rw [Addr.add_lit] at h0
      refine ⟨ab, ao, rfl, block_lt_cell h0, fun j hj => ?_⟩
      obtain ⟨hc, hLC, _, hzl, hwz, hnil, hcell⟩ := hrows j (by omega)
      rw [Addr.add_lit] at hc
      rw [hget j hj]
      have hll : (((Z j).take (L j)).map Int.toNat).length = L j := by simp; omega
      refine ⟨_, hc, A j, C j, by rw [hll], by rw [hll]; exact hLC, hnil, ?_, fun hp => ?_⟩
      · intro x hx
        obtain ⟨z, hz', rfl⟩ := List.mem_map.1 hx
        have := u8_wf (hwz z (List.mem_of_mem_take hz'))
        omega
      · rw [hll] at hp ⊢
        cases hA : A j with
        | none => have := hnil hA; omega
        | some a' =>
          obtain ⟨_, hcs⟩ := hcell a' hA
          obtain ⟨bb, bo, sp⟩ := a'
          have hsp : sp = none := by simpa [Addr.add] using World.cell?_spot (hcs 0 (by omega))
          subst hsp
          have h00 := hcs 0 (by omega)
          rw [Addr.add_lit] at h00
          refine ⟨bb, bo, rfl, block_lt_cell h00, fun i hi => ?_⟩
          have hi' := hcs i (by omega)
          rw [Addr.add_lit] at hi'
          rw [hi']
          have hiz : i < (Z j).length := by omega
          have hb := u8_wf (hwz ((Z j).getD i 0) (by simp [List.getD, hiz]))
          have e1 : (((Z j).take (L j)).map Int.toNat).getD i 0 = ((Z j).getD i 0).toNat := by
            simp [List.getD, hi, hiz]
          rw [e1]
          congr 2
          omega
    · rw [hlen, List.map_map]
      have hb := bulkAll_map (fun r => intRow (H := H) .u8 (A r) (L r) (Z r)) (fun r => L r + 1) (List.range len0) (fun r hr => by
        obtain ⟨_, hLC, _, hzl, _, hnil, _⟩ := hrows r (by have := List.mem_range.1 hr; omega)
        exact intRow_bulk (A r) (L r) (C r) (Z r) hzl hLC hnil)
      have e2 : ∀ rs : List Nat, (∀ r ∈ rs, r < len0) → (rs.map (List.length ∘ fun r => ((Z r).take (L r)).map Int.toNat)).sum + rs.length = (rs.map fun r => L r + 1).sum := by
        intro rs
        induction rs with
        | nil => intro _; rfl
        | cons r rs ih =>
          intro hr
          have h1 := ih (fun x hx => hr x (by simp [hx]))
          obtain ⟨_, hLC, _, hzl, _⟩ := hrows r (by have := hr r (by simp); omega)
          have h2 : (((Z r).take (L r)).map Int.toNat).length = L r := by simp; omega
          simp only [List.map_cons, List.sum_cons, List.length_cons, Function.comp_apply] at h1 ⊢
          omega
      have h3 := e2 (List.range len0) (fun r hr => List.mem_range.1 hr)
      rw [List.length_range] at h3
      rw [h3, Rows.uptoBulk]
      omega

end Go.Proofs.YtnhkpemajknfnaaGreatDoor.Law
