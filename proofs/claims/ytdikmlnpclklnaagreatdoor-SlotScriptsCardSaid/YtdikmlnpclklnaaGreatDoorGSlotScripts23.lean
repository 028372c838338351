/-
  Put together out of texts of one chain: what they hold stands ahead of each.
-/
import Derived.Test.YtdikmlnpclklnaaGreatDoorMailOpen
import Derived.Test.YtdikmlnpclklnaaGreatDoorGSlotScripts07
/-
  A slice of numbers that came in.
-/
namespace Go.Proofs.YtdikmlnpclklnaaGreatDoor.Disk
open Go Go.ChangeShapes Go.WideShapes Go.ChangeAt Go.RowKit Go.Deep Go.Proofs.YtdikmlnpclklnaaGreatDoor.Law

theorem weightsAll_mem {H : Type} {P : Program} {e : TypeId} {d : DataW H} {x : Nat} : ∀ {l : List (DataW H)}, d ∈ l → x ∈ d.weights P e → x ∈ DataW.weightsAll P e l
  | [], h, _ => by cases h
  | a :: l, h, hx => by
    unfold DataW.weightsAll
    rcases List.mem_cons.1 h with rfl | h
    · exact List.mem_append_left _ hx
    · exact List.mem_append_right _ (weightsAll_mem h hx)
theorem open_byte_rows_reach {H : Type} {enc : TypeId × Value → H} {P : Program} {t s e : TypeId} {base : Nat} {W : World} {v : Value} {d : DataW H} {ps : List MemPlace} (ht : P.underlying t = some (.slice s)) (hs : P.underlying s = some (.slice e)) (he : P.underlying e = some (.int .u8))
    (cs1 : P.cellsOf s = 1) (ce : P.cellsOf e = 1) (hval : Value.okWide P W .any base t v) (hy : P.bytesOf e = 1) (h : DataW.Trod enc P W 0 (fun _ => true) true t v d ps) (hw : ((d.weights P t).all (· ≤ reachBytes)) = true) :
    ∃ bss : List (List Nat), ByteRows W.heap.size W v bss ∧ bss.length ≤ maxLen ∧ ∀ j, j < bss.length → (bss.getD j []).length ≤ 140737488351232 := by
  obtain ⟨a1, len0, cap0, rfl⟩ := okWide_slice ht hval
  obtain ⟨fuel, hf⟩ := h
  rcases open_int_rows ht hs he cs1 ce hf with ⟨hcs, hx⟩ | ⟨a, len, cap, A, L, C, Z, hcs, _, hl, hm, hx, hrows⟩
  · simp [Value.cells] at hcs
    obtain ⟨rfl, rfl, rfl⟩ := hcs
    exact ⟨[], ⟨none, 0, rfl, by simp, by simp⟩, by simp [maxLen], by simp⟩
  · simp [Value.cells] at hcs
    obtain ⟨rfl, rfl, rfl⟩ := hcs
    have hlen : ((List.range len0).map fun r => ((Z r).take (L r)).map Int.toNat).length = len0 := by simp
    have hget : ∀ j, j < len0 → ((List.range len0).map fun r => ((Z r).take (L r)).map Int.toNat).getD j [] = ((Z j).take (L j)).map Int.toNat := by
      intro j hj; simp [List.getD, hj]
    refine ⟨(List.range len0).map fun r => ((Z r).take (L r)).map Int.toNat, ⟨some a, cap0, by rw [hlen], by rw [hlen]; exact hl, fun hpos => ?_⟩, by rw [hlen]; omega, fun j hj => ?_⟩
    · rw [hlen] at hpos ⊢
      obtain ⟨ab, ao, spot⟩ := a
      have hspot : spot = none := by simpa [Addr.add] using World.cell?_spot (hrows 0 (by omega)).1
      subst hspot
      have h0 := (hrows 0 (by omega)).1
      rw [Addr.add_lit] at h0
      refine ⟨ab, ao, rfl, block_lt_cell h0, fun j hj => ?_⟩
      obtain ⟨hc, hLC, _, hzl, hwz, hnil, hcell⟩ := hrows j (by omega)
      rw [Addr.add_lit] at hc
      rw [hget j hj]
      have hll : (((Z j).take (L j)).map Int.toNat).length = L j := by simp; omega
      refine ⟨_, hc, A j, C j, by rw [hll], by rw [hll]; exact hLC, hnil, ?_, fun hp => ?_⟩
      · intro x hx
        obtain ⟨z, hz', rfl⟩ := List.mem_map.1 hx
        have := u8_wf (hwz z (List.mem_of_mem_take hz'))
        omega
      · rw [hll] at hp ⊢
        cases hA : A j with
        | none => have := hnil hA; omega
        | some a' =>
          obtain ⟨_, hcs⟩ := hcell a' hA
          obtain ⟨bb, bo, sp⟩ := a'
          have hsp : sp = none := by simpa [Addr.add] using World.cell?_spot (hcs 0 (by omega))
          subst hsp
          have h00 := hcs 0 (by omega)
          rw [Addr.add_lit] at h00
          refine ⟨bb, bo, rfl, block_lt_cell h00, fun i hi => ?_⟩
          have hi' := hcs i (by omega)
          rw [Addr.add_lit] at hi'
          rw [hi']
          have hiz : i < (Z j).length := by omega
          have hb := u8_wf (hwz ((Z j).getD i 0) (by simp [List.getD, hiz]))
          have e1 : (((Z j).take (L j)).map Int.toNat).getD i 0 = ((Z j).getD i 0).toNat := by
            simp [List.getD, hi, hiz]
          rw [e1]
          congr 2
          omega
    · rw [hlen] at hj
      rw [hget j hj]
      obtain ⟨_, hLC, hCm, hzl, _, hnil, _⟩ := hrows j (by omega)
      have hreach : C j ≤ 140737488351232 := by
        cases hA : A j with
        | none => have := hnil hA; omega
        | some a' =>
          simp only [Prod.mk.injEq] at hx
          have hd : d = _ := hx.1
          rw [hd] at hw
          unfold DataW.weights at hw
          rw [ht] at hw
          simp only [List.all_cons, Bool.and_eq_true, List.all_append] at hw
          have hm2 := List.all_eq_true.1 hw.2.1 (C j) (weightsAll_mem (d := intRow .u8 (A j) (L j) (Z j)) (List.mem_map.2 ⟨j, List.mem_range.2 hj, rfl⟩) ?_)
          · simp only [decide_eq_true_eq] at hm2
            unfold reachBytes at hm2
            omega
          · rw [hA]
            show C j ∈ DataW.weights P s (.slice (lits .u8 ((Z j).take (L j))) (lits .u8 ((Z j).drop (L j))))
            unfold DataW.weights
            rw [hs]
            refine List.mem_cons.2 (.inl ?_)
            simp only [lits, List.length_map, List.length_take, List.length_drop, hy]
            omega
      simp
      omega

theorem open_ints_arg {H : Type} {enc : TypeId × Value → H} {P : Program} {t e : TypeId} {base : Nat} {W : World} {v : Value} {d : DataW H} {ps : List MemPlace} (ht : P.underlying t = some (.slice e)) (he : P.underlying e = some (.int .i64)) (hc : P.cellsOf e = 1)
    (hval : Value.okWide P W .any base t v) (h : DataW.Trod enc P W 0 (fun _ => true) true t v d ps) : ∃ zs : List Int, Ints (fun b => b < W.heap.size) W v zs ∧ zs.length ≤ maxLen := by
  obtain ⟨a1, len, cap, rfl⟩ := okWide_slice ht hval
  obtain ⟨fuel, hf⟩ := h
  rcases open_ints ht he hc hf with ⟨hcs, hx⟩ | ⟨a, len', cap', zs, hcs, _, hl, hm, hz, hx, hcell, hwz⟩
  · simp [Value.cells] at hcs
    obtain ⟨rfl, rfl, rfl⟩ := hcs
    exact ⟨[], ⟨none, 0, rfl, by simp, by simp⟩, by simp⟩
  · simp [Value.cells] at hcs
    obtain ⟨rfl, rfl, rfl⟩ := hcs
    simp only [if_true] at hz
    have hlen : (zs.take len).length = len := by simp; omega
    refine ⟨zs.take len, ⟨some a, cap, by rw [hlen], by rw [hlen]; exact hl, fun hp => ?_⟩, by rw [hlen]; omega⟩
    rw [hlen] at hp ⊢
    obtain ⟨ab, ao, spot⟩ := a
    have hspot : spot = none := by simpa [Addr.add] using World.cell?_spot (hcell 0 (by omega))
    subst hspot
    have h0 := hcell 0 (by omega)
    rw [Addr.add_lit] at h0
    refine ⟨ab, ao, rfl, block_lt_cell h0, fun j hj => ?_⟩
    have hj' := hcell j (by omega)
    rw [Addr.add_lit] at hj'
    rw [hj']
    simp [List.getD, hj]

theorem open_ints_reach {H : Type} {enc : TypeId × Value → H} {P : Program} {t e : TypeId} {base : Nat} {W : World} {v : Value} {d : DataW H} {ps : List MemPlace} (ht : P.underlying t = some (.slice e)) (he : P.underlying e = some (.int .i64)) (hc : P.cellsOf e = 1) (hy : P.bytesOf e = 8)
    (hval : Value.okWide P W .any base t v) (h : DataW.Trod enc P W 0 (fun _ => true) true t v d ps) (hw : ((d.weights P t).all (· ≤ reachBytes)) = true) : ∃ zs : List Int, Ints (fun b => b < W.heap.size) W v zs ∧ zs.length * 8 ≤ 140737488351232 ∧ ∀ c, v = .slice none zs.length c → c = 0 := by
  obtain ⟨a1, len, cap, rfl⟩ := okWide_slice ht hval
  obtain ⟨fuel, hf⟩ := h
  rcases open_ints ht he hc hf with ⟨hcs, hx⟩ | ⟨a, len', cap', zs, hcs, _, hl, hm, hz, hx, hcell, hwz⟩
  · simp [Value.cells] at hcs
    obtain ⟨rfl, rfl, rfl⟩ := hcs
    exact ⟨[], ⟨none, 0, rfl, by simp, by simp⟩, by simp, fun c hc => by simpa using hc.symm⟩
  · simp [Value.cells] at hcs
    obtain ⟨rfl, rfl, rfl⟩ := hcs
    simp only [Prod.mk.injEq] at hx
    obtain ⟨rfl, rfl⟩ := hx
    simp only [if_true] at hz
    have hreach : zs.length * 8 ≤ 140737488351232 := by
      unfold DataW.weights at hw
      rw [ht] at hw
      simp only [List.all_cons, Bool.and_eq_true, decide_eq_true_eq, hy, lits, List.length_map, List.length_take, List.length_drop] at hw
      have := hw.1
      unfold reachBytes at this
      omega
    have hlen : (zs.take len).length = len := by simp; omega
    refine ⟨zs.take len, ⟨some a, cap, by rw [hlen], by rw [hlen]; exact hl, fun hp => ?_⟩, by rw [hlen]; omega, fun c hc => by simp at hc⟩
    rw [hlen] at hp ⊢
    obtain ⟨ab, ao, spot⟩ := a
    have hspot : spot = none := by simpa [Addr.add] using World.cell?_spot (hcell 0 (by omega))
    subst hspot
    have h0 := hcell 0 (by omega)
    rw [Addr.add_lit] at h0
    refine ⟨ab, ao, rfl, block_lt_cell h0, fun j hj => ?_⟩
    have hj' := hcell j (by omega)
    rw [Addr.add_lit] at hj'
    rw [hj']
    simp [List.getD, hj]

end Go.Proofs.YtdikmlnpclklnaaGreatDoor.Disk
