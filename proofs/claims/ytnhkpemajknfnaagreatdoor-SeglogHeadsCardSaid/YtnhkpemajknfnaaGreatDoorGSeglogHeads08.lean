/-
  Put together out of texts of one chain: what they hold stands ahead of each.
-/
import Derived.Test.YtnhkpemajknfnaaGreatDoorMailOpen
import Derived.Test.YtnhkpemajknfnaaGreatDoorGSeglogHeads19
/-
  A slice of numbers that came in.
-/
namespace Go.Proofs.YtnhkpemajknfnaaGreatDoor.Disk
open Go Go.ChangeShapes Go.WideShapes Go.ChangeAt Go.RowKit Go.Deep Go.Proofs.YtnhkpemajknfnaaGreatDoor.Law

theorem weightsAll_mem {H : Type} {P : Program} {e : TypeId} {d : DataW H} {x : Nat} : ∀ {l : List (DataW H)}, d ∈ l → x ∈ d.weights P e → x ∈ DataW.weightsAll P e l
  | [], h, _ => by cases h
  | a :: l, h, hx => by
    unfold DataW.weightsAll
    rcases List.mem_cons.1 h with rfl | h
    · exact List.mem_append_left _ hx
    · exact List.mem_append_right _ (weightsAll_mem h hx)
theorem open_byte_rows_reach {H : Type} {enc : TypeId × Value → H} {P : Program} {t s e : TypeId} {base : Nat} {W : World} {v : Value} {d : DataW H} {ps : List MemPlace} (ht : P.underlying t = some (.slice s)) (hs : P.underlying s = some (.slice e)) (he : P.underlying e = some (.int .u8))
    (cs1 : P.cellsOf s = 1) (ce : P.cellsOf e = 1) (hval : Value.okWide P W .any base t v) (hy : P.bytesOf e = 1) (h : DataW.Trod enc P W 0 (fun _ => true) true t v d ps) (hw : ((d.weights P t).all (· ≤ reachBytes)) = true) :
    ∃ bss : List (List Nat), ByteRows W.heap.size W v bss ∧ bss.length ≤ maxLen ∧ ∀ j, j < bss.length → (bss.getD j []).length ≤ 140737488351232 := by
  obtain ⟨a1, len0, cap0, rfl⟩ := okWide_slice ht hval
  obtain ⟨fuel, hf⟩ := h
  rcases open_int_rows ht hs he cs1 ce hf with ⟨hcs, hx⟩ | ⟨a, len, cap, A, L, C, Z, hcs, _, hl, hm, hx, hrows⟩
  · simp [Value.cells] at hcs
    obtain ⟨rfl, rfl, rfl⟩ := hcs
    exact ⟨[], ⟨none, 0, rfl, by simp, by simp⟩, by simp [maxLen], by simp⟩
  · simp [Value.cells] at hcs
    obtain ⟨rfl, rfl, rfl⟩ := hcs
    have hlen : ((List.range len0).map fun r => ((Z r).take (L r)).map Int.toNat).length = len0 := by simp
    have hget : ∀ j, j < len0 → ((List.range len0).map fun r => ((Z r).take (L r)).map Int.toNat).getD j [] = ((Z j).take (L j)).map Int.toNat := by
      intro j hj; simp [List.getD, hj]
    refine ⟨(List.range len0).map fun r => ((Z r).take (L r)).map Int.toNat, ⟨some a, cap0, by rw [hlen], by rw [hlen]; exact hl, fun hpos => ?_⟩, by rw [hlen]; omega, fun j hj => ?_⟩
    · rw [hlen] at hpos ⊢
      obtain ⟨ab, ao, spot⟩ := a
      have hspot : spot = none := by simpa [Addr.add] using World.cell?_spot (hrows 0 (by omega)).1
      subst hspot
      have h0 := (hrows 0 (by omega)).1
      rw [Addr.add_lit] at h0
      refine ⟨ab, ao, rfl, block_lt_cell h0, fun j hj => ?_⟩
      obtain ⟨hc, hLC, _, hzl, hwz, hnil, hcell⟩ := hrows j (by omega)
      rw [Addr.add_lit] at hc
      rw [hget j hj]
      have hll : (((Z j).take (L j)).map Int.toNat).length = L j := by simp; omega
      refine ⟨_, hc, A j, C j, by rw [hll], by rw [hll]; exact hLC, hnil, ?_, fun hp => ?_⟩
      · intro x hx
        obtain ⟨z, hz', rfl⟩ := List.mem_map.1 hx
        have := u8_wf (hwz z (List.mem_of_mem_take hz'))
        omega
      · rw [hll] at hp ⊢
        cases hA : A j with
        | none => have := hnil hA; omega
        | some a' =>
          obtain ⟨_, hcs⟩ := hcell a' hA
          obtain ⟨bb, bo, sp⟩ := a'
          have hsp : sp = none := by simpa [Addr.add] using World.cell?_spot (hcs 0 (by omega))
          subst hsp
          have h00 := hcs 0 (by omega)
          rw [Addr.add_lit] at h00
          refine ⟨bb, bo, rfl, block_lt_cell h00, fun i hi => ?_⟩
          have hi' := hcs i (by omega)
          rw [Addr.add_lit] at hi'
          rw [hi']
          have hiz : i < (Z j).length := by omega
          have hb := u8_wf (hwz ((Z j).getD i 0) (by simp [List.getD, hiz]))
          have e1 : (((Z j).take (L j)).map Int.toNat).getD i 0 = ((Z j).getD i 0).toNat := by
            simp [List.getD, hi, hiz]
          rw [e1]
          congr 2
          omega
    · rw [hlen] at hj
      rw [hget j hj]
      obtain ⟨_, hLC, hCm, hzl, _, hnil, _⟩ := hrows j (by omega)
      have hreach : C j ≤ 140737488351232 := by
        cases hA : A j with
        | none => have := hnil hA; omega
        | some a' =>
          simp only [Prod.mk.injEq] at hx
          have hd : d = _ := hx.1
          rw [hd] at hw
          unfold DataW.weights at hw
          rw [ht] at hw
          simp only [List.all_cons, Bool.and_eq_true, List.all_append] at hw
          have hm2 := List.all_eq_true.1 hw.2.1 (C j) (weightsAll_mem (d := intRow .u8 (A j) (L j) (Z j)) (List.mem_map.2 ⟨j, List.mem_range.2 hj, rfl⟩) ?_)
          · simp only [decide_eq_true_eq] at hm2
            unfold reachBytes at hm2
            omega
          · rw [hA]
            show C j ∈ DataW.weights P s (.slice (lits .u8 ((Z j).take (L j))) (lits .u8 ((Z j).drop (L j))))
            unfold DataW.weights
            rw [hs]
            refine List.mem_cons.2 (.inl ?_)
            simp only [lits, List.length_map, List.length_take, List.length_drop, hy]
            omega
      simp
      omega

theorem open_ints_arg {H : Type} {enc : TypeId × Value → H} {P : Program} {t e : TypeId} {base : Nat} {W : World} {v : Value} {d : DataW H} {ps : List MemPlace} (ht : P.underlying t = some (.slice e)) (he : P.underlying e = some (.int .i64)) (hc : P.cellsOf e = 1)
    (hval : Value.okWide P W .any base t v) (h : DataW.Trod enc P W 0 (fun _ => true) true t v d ps) : ∃ zs : List Int, Ints (fun b => b < W.heap.size) W v zs ∧ zs.length ≤ maxLen := by
  obtain ⟨a1, len, cap, rfl⟩ := okWide_slice ht hval
  obtain ⟨fuel, hf⟩ := h
  rcases open_ints ht he hc hf with ⟨hcs, hx⟩ | ⟨a, len', cap', zs, hcs, _, hl, hm, hz, hx, hcell, hwz⟩
  · simp [Value.cells] at hcs
    obtain ⟨rfl, rfl, rfl⟩ := hcs
    exact ⟨[], ⟨none, 0, rfl, by simp, by simp⟩, by simp⟩
  · simp [Value.cells] at hcs
    obtain ⟨rfl, rfl, rfl⟩ := hcs
    simp only [if_true] at hz
    have hlen : (zs.take len).length = len := by simp; omega
    refine ⟨zs.take len, ⟨some a, cap, by rw [hlen], by rw [hlen]; exact hl, fun hp => ?_⟩, by rw [hlen]; omega⟩
    rw [hlen] at hp ⊢
    obtain ⟨ab, ao, spot⟩ := a
    have hspot : spot = none := by simpa [Addr.add] using World.cell?_spot (hcell 0 (by omega))
    subst hspot
    have h0 := hcell 0 (by omega)
    rw [Addr.add_lit] at h0
    refine ⟨ab, ao, rfl, block_lt_cell h0, fun j hj => ?_⟩
    have hj' := hcell j (by omega)
    rw [Addr.add_lit] at hj'
    rw [hj']
    simp [List.getD, hj]

theorem open_ints_reach {H : Type} {enc : TypeId × Value → H} {P : Program} {t e : TypeId} {base : Nat} {W : World} {v : Value} {d : DataW H} {ps : List MemPlace} (ht : P.underlying t = some (.slice e)) (he : P.underlying e = some (.int .i64)) (hc : P.cellsOf e = 1) (hy : P.bytesOf e = 8)
    (hval : Value.okWide P W .any base t v) (h : DataW.Trod enc P W 0 (fun _ => true) true t v d ps) (hw : ((d.weights P t).all (· ≤ reachBytes)) = true) : ∃ zs : List Int, Ints (fun b => b < W.heap.size) W v zs ∧ zs.length * 8 ≤ 140737488351232 ∧ ∀ c, v = .slice none zs.length c → c = 0 := by
  obtain ⟨a1, len, cap, rfl⟩ := okWide_slice ht hval
  obtain ⟨fuel, hf⟩ := h
  rcases open_ints ht he hc hf with ⟨hcs, hx⟩ | ⟨a, len', cap', zs, hcs, _, hl, hm, hz, hx, hcell, hwz⟩
  · simp [Value.cells] at hcs
    obtain ⟨rfl, rfl, rfl⟩ := hcs
    exact ⟨[], ⟨none, 0, rfl, by simp, by simp⟩, by simp, fun c hc => by simpa using hc.symm⟩
  · simp [Value.cells] at hcs
    obtain ⟨rfl, rfl, rfl⟩ := hcs
    simp only [Prod.mk.injEq] at hx
    obtain ⟨rfl, rfl⟩ := hx
    simp only [if_true] at hz
    have hreach : zs.length * 8 ≤ 140737488351232 := by
      unfold DataW.weights at hw
      rw [ht] at hw
      simp only [List.all_cons, Bool.and_eq_true, decide_eq_true_eq, hy, lits, List.length_map, List.length_take, List.length_drop] at hw
      have := hw.1
      unfold reachBytes at this
      omega
    have hlen : (zs.take len).length = len := by simp; omega
    refine ⟨zs.take len, ⟨some a, cap, by rw [hlen], by rw [hlen]; exact hl, fun hp => ?_⟩, by rw [hlen]; omega, fun c hc => by simp at hc⟩
    rw [hlen] at hp ⊢
    obtain ⟨ab, ao, spot⟩ := a
    have hspot : spot = none := by simpa [Addr.add] using World.cell?_spot (hcell 0 (by omega))
    subst hspot
    have h0 := hcell 0 (by omega)
    rw [Addr.add_lit] at h0
    refine ⟨ab, ao, rfl, block_lt_cell h0, fun j hj => ?_⟩
    have hj' := hcell j (by omega)
    rw [Addr.add_lit] at hj'
    rw [hj']
    simp [List.getD, hj]

end Go.Proofs.YtnhkpemajknfnaaGreatDoor.Disk

/-
  A disk of a law's own: what each call makes of it, where nothing of what lay before the law has turned.
-/
namespace Go.Proofs.YtnhkpemajknfnaaGreatDoor.Disk
open Go Go.RowKit Go.Lib Go.Proofs.YtnhkpemajknfnaaGreatDoor.Law

theorem bytesS_str {bs : List Nat} (h : ∀ x ∈ bs, x < 256) : bytesS (str bs) = bs := by
  unfold bytesS str
  rw [List.map_map]
  conv => rhs; rw [← List.map_id bs]
  apply List.map_congr_left
  intro x hx
  have := h x hx
  simp [Nat.mod_eq_of_lt this]
theorem str_size (bs : List Nat) : (str bs).size = bs.length := by
  unfold str
  show (bs.map UInt8.ofNat).toArray.size = _
  simp

/-- The disk D, none of whose blocks lay before w. -/
def Dk (w : World) (db : Nat) (D : DS) (W : World) : Prop := ∃ O, DiskAt W O db D ∧ (∀ k, k < w.heap.size → O k = none) ∧ Below w.heap.size w W ∧ WF D

theorem Dk.below {w W W' : World} {db : Nat} {D : DS} (h : Dk w db D W) (hB : Below W.heap.size W W') : Dk w db D W' := by
  obtain ⟨O, h1, h2, h3, h4⟩ := h
  exact ⟨O, h1.below hB, h2, h3.trans (hB.mono h3.size), h4⟩
theorem Dk.low {w W : World} {db : Nat} {D : DS} (h : Dk w db D W) : Below w.heap.size w W := by obtain ⟨O, _, _, h3, _⟩ := h; exact h3
theorem Dk.wf {w W : World} {db : Nat} {D : DS} (h : Dk w db D W) : WF D := by obtain ⟨O, _, _, _, h4⟩ := h; exact h4
theorem Dk.size {w W : World} {db : Nat} {D : DS} (h : Dk w db D W) : w.heap.size ≤ W.heap.size := h.low.size
theorem Dk.past {w W W' : World} {O O' : Owner} (h2 : ∀ k, k < w.heap.size → O k = none) (h3 : Below w.heap.size w W) (hp : Past W O W' O') : (∀ k, k < w.heap.size → O' k = none) ∧ Below w.heap.size w W' :=
  ⟨hp.low h2 h3.size, h3.trans (hp.below h2 h3.size)⟩

theorem new_dk (room : Nat) (hr : room ≤ 1073741824) (w0 w : World) (hB : Below w0.heap.size w0 w) : Calls Tryz.prog 8 #[.int .i64 (room : Nat)] w fun e W => ∃ db, e = .returned (.tuple #[.pointer (some ⟨db, 0, none⟩), .int .i64 0]) ∧ Dk w0 db (DS.fresh room) W := by
  refine (new_calls (room : Nat) w ⟨by omega, by omega⟩).mono ?_
  rintro e W ⟨db, mb, rfl, h1, h2, h3, h4, h5, h6⟩
  have hs := hB.size
  refine ⟨db, rfl, _, DiskAt.made h4 h5 h2 h1, fun k hk => if_neg (by omega), hB.trans (h6.mono hs), WF.fresh room hr⟩

theorem Dk.write {w W : World} {db : Nat} {D : DS} (h : Dk w db D W) (hmade : D.made ≤ 4294967296) (s : ByteArray) (hs63 : s.size ≤ 9223372036854775807) (k : Int) (hk63 : k ≤ 9223372036854775807) (dv : Value) (bs : List Nat) (hdl : bs.length ≤ 140737488351232) (hI : Bytes W.heap.size W dv bs) :
    Calls Tryz.prog 9 #[.pointer (some ⟨db, 0, none⟩), .string s, .int .i64 k, dv] W fun e W' => e = .returned (.int .i64 (D.writeN s k bs.length : Nat)) ∧ Dk w db (D.write s k (str bs)) W' := by
  obtain ⟨O, h1, h2, h3, h4⟩ := h
  have hb := bytesS_str hI.lt
  refine (write_calls W O db D h1 h4 hmade s hs63 k hk63 dv (str bs) (by rw [str_size]; exact hdl) (by rw [hb]; exact hI)).mono ?_
  rintro e W' ⟨rfl, O', h5, h6⟩
  rw [str_size]
  obtain ⟨h7, h8⟩ := Dk.past h2 h3 h6
  exact ⟨rfl, O', h5, h7, h8, h4.write s k (str bs)⟩

theorem Dk.sync {w W : World} {db : Nat} {D : DS} (h : Dk w db D W) (s : ByteArray) (hs63 : s.size ≤ 9223372036854775807) :
    Calls Tryz.prog 10 #[.pointer (some ⟨db, 0, none⟩), .string s] W fun e W' => e = .returned (.int .i64 (D.syncN s : Nat)) ∧ Dk w db (D.sync s) W' := by
  obtain ⟨O, h1, h2, h3, h4⟩ := h
  refine (sync_calls W O db D h1 h4 s hs63).mono ?_
  rintro e W' ⟨rfl, O', h5, h6⟩
  obtain ⟨h7, h8⟩ := Dk.past h2 h3 h6
  exact ⟨rfl, O', h5, h7, h8, h4.sync s⟩

/-- Picks that lay before the law, or have come since the disk stood. -/
theorem Dk.crash {w W0 W : World} {db : Nat} {D : DS} (h : Dk w db D W0) (hB : Below W0.heap.size W0 W) (hmade : D.made ≤ 4294967296) (pv : Value) (picks : List Int) (hp : Ints (fun b => b < W.heap.size ∧ (b < w.heap.size ∨ W0.heap.size ≤ b)) W pv picks) :
    Calls Tryz.prog 15 #[.pointer (some ⟨db, 0, none⟩), pv] W fun e W' => e = .returned (.tuple #[]) ∧ Dk w db (D.crash picks) W' := by
  obtain ⟨O, h1, h2, h3, h4⟩ := h
  have hB3 := h3.trans (hB.mono h3.size)
  have hp2 : Ints (fun b => b < W.heap.size ∧ O b = none) W pv picks := by
    obtain ⟨A, cap, h5, h6, h7⟩ := hp
    refine ⟨A, cap, h5, h6, fun hl => ?_⟩
    obtain ⟨b, off, h8, ⟨h9, h10⟩, h11⟩ := h7 hl
    refine ⟨b, off, h8, ⟨h9, ?_⟩, h11⟩
    rcases h10 with h10 | h10
    · exact h2 b h10
    · exact Classical.byContradiction fun e => by have := h1.lt b e; omega
  refine (crash_calls W O db D (h1.below hB) h4 hmade pv picks hp2).mono ?_
  rintro e W' ⟨rfl, O', h5, h6⟩
  obtain ⟨h7, h8⟩ := Dk.past h2 hB3 h6
  exact ⟨rfl, O', h5, h7, h8, h4.crash picks⟩

theorem Dk.read {w W : World} {db : Nat} {D : DS} (h : Dk w db D W) (s : ByteArray) (hs : Short s) :
    Calls Tryz.prog 11 #[.pointer (some ⟨db, 0, none⟩), .string s] W fun e W' => ReadD W (D.now s) e W' ∧ Dk w db D W' := by
  obtain ⟨O, h1, _, _, h4⟩ := id h
  refine (readD_calls W O db D h1 h4 s hs).mono ?_
  intro e W' hr
  obtain ⟨v, _, _, hB⟩ := id hr
  exact ⟨hr, h.below hB⟩
end Go.Proofs.YtnhkpemajknfnaaGreatDoor.Disk

/-
  A disk of a law's own beside blocks that are the law's own too: what each call makes of the disk, and that it leaves those blocks.
-/
namespace Go.Proofs.YtnhkpemajknfnaaGreatDoor.Disk
open Go Go.RowKit Go.Lib Go.Proofs.YtnhkpemajknfnaaGreatDoor.Law

/-- The disk D; the blocks of Fr are none of it. -/
def Dx (Fr : Nat → Prop) (w : World) (db : Nat) (D : DS) (W : World) : Prop :=
  ∃ O, DiskAt W O db D ∧ (∀ k, k < w.heap.size → O k = none) ∧ Below w.heap.size w W ∧ WF D ∧ ∀ k, Fr k → w.heap.size ≤ k ∧ k < W.heap.size ∧ O k = none

theorem Dx.of {w W : World} {db : Nat} {D : DS} (h : Dk w db D W) : Dx (fun _ => False) w db D W := by
  obtain ⟨O, h1, h2, h3, h4⟩ := h
  exact ⟨O, h1, h2, h3, h4, fun _ h => h.elim⟩
theorem Dx.low {Fr : Nat → Prop} {w W : World} {db : Nat} {D : DS} (h : Dx Fr w db D W) : Below w.heap.size w W := by obtain ⟨O, _, _, h3, _⟩ := h; exact h3
theorem Dx.below {Fr : Nat → Prop} {w W W' : World} {db : Nat} {D : DS} (h : Dx Fr w db D W) (hB : Below W.heap.size W W') : Dx Fr w db D W' := by
  obtain ⟨O, h1, h2, h3, h4, h5⟩ := h
  exact ⟨O, h1.below hB, h2, h3.trans (hB.mono h3.size), h4, fun k hk => ⟨(h5 k hk).1, Nat.lt_of_lt_of_le (h5 k hk).2.1 hB.size, (h5 k hk).2.2⟩⟩
/-- New blocks are none of the disk's. -/
theorem Dx.add {Fr : Nat → Prop} {w W W' : World} {db : Nat} {D : DS} (h : Dx Fr w db D W) (hB : Below W.heap.size W W') : Dx (fun k => Fr k ∨ (W.heap.size ≤ k ∧ k < W'.heap.size)) w db D W' := by
  obtain ⟨O, h1, h2, h3, h4, h5⟩ := h
  refine ⟨O, h1.below hB, h2, h3.trans (hB.mono h3.size), h4, fun k hk => ?_⟩
  rcases hk with hk | hk
  · exact ⟨(h5 k hk).1, Nat.lt_of_lt_of_le (h5 k hk).2.1 hB.size, (h5 k hk).2.2⟩
  · exact ⟨Nat.le_trans h3.size hk.1, hk.2, Classical.byContradiction fun e => by have := h1.lt k e; omega⟩
/-- Blocks that are none of the disk's turned. -/
theorem Dx.turn {Fr : Nat → Prop} {w W W' : World} {db : Nat} {D : DS} (h : Dx Fr w db D W) (hs : W.heap.size ≤ W'.heap.size) (hk : ∀ k, k < W.heap.size → ¬ Fr k → W'.heap[k]? = W.heap[k]?) (hos : W'.os = W.os) (htp : W'.tape = W.tape) (hout : W'.output = W.output) : Dx Fr w db D W' := by
  obtain ⟨O, h1, h2, h3, h4, h5⟩ := h
  refine ⟨O, h1.keep hs fun k hk' ho => hk k hk' fun hf => ho (h5 k hf).2.2, h2, ⟨hos.trans h3.os, htp.trans h3.tape, hout.trans h3.output, Nat.le_trans h3.size hs, fun k hk' => ?_⟩, h4, fun k hf => ⟨(h5 k hf).1, Nat.lt_of_lt_of_le (h5 k hf).2.1 hs, (h5 k hf).2.2⟩⟩
  rw [hk k (Nat.lt_of_lt_of_le hk' h3.size) fun hf => by have := (h5 k hf).1; omega]
  exact h3.block k hk'

/-- The blocks of Fr lie as they lay. -/
def SameOn (Fr : Nat → Prop) (W W' : World) : Prop := (∀ k, Fr k → W'.heap[k]? = W.heap[k]?) ∧ W.heap.size ≤ W'.heap.size
theorem Dx.past {Fr : Nat → Prop} {w W W' : World} {D : DS} {O O' : Owner} (h1 : ∀ k, k < w.heap.size → O k = none) (h2 : Below w.heap.size w W) (h3 : ∀ k, Fr k → w.heap.size ≤ k ∧ k < W.heap.size ∧ O k = none) (hp : Past W O W' O') {db : Nat} (hd : DiskAt W' O' db D) (hw : WF D) :
    Dx Fr w db D W' ∧ SameOn Fr W W' := by
  obtain ⟨h7, h8⟩ := Dk.past h1 h2 hp
  exact ⟨⟨O', hd, h7, h8, hw, fun k hk => ⟨(h3 k hk).1, Nat.lt_of_lt_of_le (h3 k hk).2.1 hp.size, hp.none k (h3 k hk).2.1 (h3 k hk).2.2⟩⟩, fun k hk => hp.same k (h3 k hk).2.1 (h3 k hk).2.2, hp.size⟩
theorem Dx.sameOn {Fr : Nat → Prop} {w W W' : World} {db : Nat} {D : DS} (h : Dx Fr w db D W) (hB : Below W.heap.size W W') : SameOn Fr W W' := by
  obtain ⟨O, _, _, _, _, h5⟩ := h
  exact ⟨fun k hk => hB.block k (h5 k hk).2.1, hB.size⟩

theorem Dx.write {Fr : Nat → Prop} {w W : World} {db : Nat} {D : DS} (h : Dx Fr w db D W) (hmade : D.made ≤ 4294967296) (s : ByteArray) (hs63 : s.size ≤ 9223372036854775807) (k : Int) (hk63 : k ≤ 9223372036854775807) (dv : Value) (bs : List Nat) (hdl : bs.length ≤ 140737488351232) (hI : Bytes W.heap.size W dv bs) :
    Calls Tryz.prog 9 #[.pointer (some ⟨db, 0, none⟩), .string s, .int .i64 k, dv] W fun e W' => e = .returned (.int .i64 (D.writeN s k bs.length : Nat)) ∧ Dx Fr w db (D.write s k (str bs)) W' ∧ SameOn Fr W W' := by
  obtain ⟨O, h1, h2, h3, h4, h5⟩ := h
  have hb := bytesS_str hI.lt
  refine (write_calls W O db D h1 h4 hmade s hs63 k hk63 dv (str bs) (by rw [str_size]; exact hdl) (by rw [hb]; exact hI)).mono ?_
  rintro e W' ⟨rfl, O', h6, h7⟩
  rw [str_size]
  exact ⟨rfl, Dx.past h2 h3 h5 h7 h6 (h4.write s k (str bs))⟩
theorem Dx.sync {Fr : Nat → Prop} {w W : World} {db : Nat} {D : DS} (h : Dx Fr w db D W) (s : ByteArray) (hs63 : s.size ≤ 9223372036854775807) :
    Calls Tryz.prog 10 #[.pointer (some ⟨db, 0, none⟩), .string s] W fun e W' => e = .returned (.int .i64 (D.syncN s : Nat)) ∧ Dx Fr w db (D.sync s) W' ∧ SameOn Fr W W' := by
  obtain ⟨O, h1, h2, h3, h4, h5⟩ := h
  refine (sync_calls W O db D h1 h4 s hs63).mono ?_
  rintro e W' ⟨rfl, O', h6, h7⟩
  exact ⟨rfl, Dx.past h2 h3 h5 h7 h6 (h4.sync s)⟩
theorem Dx.crash {Fr : Nat → Prop} {w W : World} {db : Nat} {D : DS} (h : Dx Fr w db D W) (hmade : D.made ≤ 4294967296) (pv : Value) (picks : List Int) (hp : Ints (fun b => Fr b) W pv picks) :
    Calls Tryz.prog 15 #[.pointer (some ⟨db, 0, none⟩), pv] W fun e W' => e = .returned (.tuple #[]) ∧ Dx Fr w db (D.crash picks) W' ∧ SameOn Fr W W' := by
  obtain ⟨O, h1, h2, h3, h4, h5⟩ := h
  have hp2 : Ints (fun b => b < W.heap.size ∧ O b = none) W pv picks := by
    obtain ⟨A, cap, h6, h7, h8⟩ := hp
    refine ⟨A, cap, h6, h7, fun hl => ?_⟩
    obtain ⟨b, off, h9, h10, h11⟩ := h8 hl
    exact ⟨b, off, h9, (h5 b h10).2, h11⟩
  refine (crash_calls W O db D h1 h4 hmade pv picks hp2).mono ?_
  rintro e W' ⟨rfl, O', h6, h7⟩
  exact ⟨rfl, Dx.past h2 h3 h5 h7 h6 (h4.crash picks)⟩
theorem Dx.read {Fr : Nat → Prop} {w W : World} {db : Nat} {D : DS} (h : Dx Fr w db D W) (s : ByteArray) (hs : Short s) :
    Calls Tryz.prog 11 #[.pointer (some ⟨db, 0, none⟩), .string s] W (ReadD W (D.now s)) := by
  obtain ⟨O, h1, _, _, h4, _⟩ := h
  exact readD_calls W O db D h1 h4 s hs
end Go.Proofs.YtnhkpemajknfnaaGreatDoor.Disk

/-
  A change that leaves less of a file (a cut, a removal): the disk behind it, as data and in memory.
-/
namespace Go.Proofs.YtnhkpemajknfnaaGreatDoor.Disk
open Go Go.RowKit Go.Lib Go.Proofs.YtnhkpemajknfnaaGreatDoor.Law

/-- The disk behind a change that leaves o of a file. -/
def DS.chg (D : DS) (s : ByteArray) (o : Option (List Nat)) (kind pos : Nat) : DS :=
  { D with used := D.used - (szO (D.now s) - szO o), made := D.made + 1, now := upd D.now s o, chs := D.chs ++ [(s, ⟨D.made, kind, pos, ⟨#[]⟩⟩)] }
theorem cutD_chg (D : DS) (s : ByteArray) (k : Nat) (hk : k ≤ szO (D.now s)) : D.cutD s k = D.chg s (some (((D.now s).getD []).take k)) 1 k := by
  unfold DS.cutD DS.chg
  have : szO (some (((D.now s).getD []).take k)) = k := by
    show (List.take _ _).length = k
    rw [List.length_take, szO_getD]; omega
  rw [this]
theorem removeD_chg (D : DS) (s : ByteArray) : D.removeD s = D.chg s none 2 0 := rfl

theorem WF.chg {D : DS} (h : WF D) {s : ByteArray} {o : Option (List Nat)} {kind pos : Nat} (hs : s ∈ D.names) (ho : szO o ≤ szO (D.now s)) (hk : kind ≤ 2) (hp : pos ≤ 1073741824) : WF (D.chg s o kind pos) := by
  have hsz := h.nowLe s
  constructor
  · exact h.nodup
  · intro x
    show x ∈ D.names ↔ upd D.now s o x ≠ none ∨ D.safe x ≠ none ∨ ∃ c, (x, c) ∈ D.chs ++ [(s, _)]
    by_cases hx : x = s
    · subst hx
      exact ⟨fun _ => .inr (.inr ⟨_, List.mem_append_right _ (List.mem_singleton.2 rfl)⟩), fun _ => hs⟩
    · rw [upd_other _ _ hx, h.names x]
      have e1 : (∃ c, (x, c) ∈ D.chs ++ [(s, (⟨D.made, kind, pos, ⟨#[]⟩⟩ : Chg))]) ↔ ∃ c, (x, c) ∈ D.chs := by
        constructor
        · rintro ⟨c, hc⟩
          rcases List.mem_append.1 hc with hc | hc
          · exact ⟨c, hc⟩
          · simp only [List.mem_singleton, Prod.mk.injEq] at hc
            exact absurd hc.1 hx
        · rintro ⟨c, hc⟩
          exact ⟨c, List.mem_append_left _ hc⟩
      rw [e1]
  · exact h.right
  · show D.names.length ≤ D.made + 1
    have := h.count; omega
  · intro x b hb
    have hb' : upd D.now s o x = some b := hb
    by_cases hx : x = s
    · subst hx
      rw [upd_same] at hb'
      subst hb'
      exact Nat.le_trans ho hsz
    · rw [upd_other _ _ hx] at hb'; exact h.nowSz x b hb'
  · exact h.safeSz
  · intro x hx
    rcases List.mem_append.1 (show x ∈ D.chs ++ [_] from hx) with hx | hx
    · exact h.chSz x hx
    · simp only [List.mem_singleton] at hx
      subst hx
      show pos + 0 ≤ _; omega
  · refine List.pairwise_append.2 ⟨h.asc, by simp, fun a ha b hb => ?_⟩
    simp only [List.mem_singleton] at hb
    subst hb; exact h.below a ha
  · intro x hx
    show x.2.n < D.made + 1
    rcases List.mem_append.1 (show x ∈ D.chs ++ [_] from hx) with hx | hx
    · have := h.below x hx; omega
    · simp only [List.mem_singleton] at hx
      subst hx; exact Nat.lt_succ_self _
  · intro x hx
    rcases List.mem_append.1 (show x ∈ D.chs ++ [_] from hx) with hx | hx
    · exact h.kind x hx
    · simp only [List.mem_singleton] at hx
      subst hx; exact hk
  · show (D.chs ++ [_]).length ≤ D.made + 1
    have := h.len
    simp; exact this
  · exact h.room
  · show D.used - (szO (D.now s) - szO o) = total D.names (upd D.now s o)
    have hu := h.used
    have h1 := total_in D.now s o D.names h.nodup hs
    have h2 := total_ge D.now s D.names hs
    omega

/-- A file's block with another content. -/
def setNow (W : World) (fb : Nat) (there : Bool) (v : Value) : World := (W.setCell ⟨fb, 0, none⟩ (.bool there)).setCell ⟨fb, 1, none⟩ v
theorem setNow_other {W : World} {fb k : Nat} {there : Bool} {v : Value} (h : k ≠ fb) : (setNow W fb there v).heap[k]? = W.heap[k]? := by
  unfold setNow
  rw [Below.heap_setCell _ _ _ _ h, Below.heap_setCell _ _ _ _ h]
theorem setNow_size (W : World) (fb : Nat) (there : Bool) (v : Value) : (setNow W fb there v).heap.size = W.heap.size := by simp [setNow, World.setCell]
theorem setNow_file {W : World} {fb : Nat} {nt st sh there : Bool} {nv sv cv v : Value} (h : FB W fb nt nv st sv sh cv) : FB (setNow W fb there v) fb there v st sv sh cv := by
  have h1 := block_set h 0 (.bool there)
  have h2 := block_set h1 1 v
  exact h2.trans (by simp)

/-- The disk in memory behind such a change. -/
theorem chg_done {w w0 W4 : World} {O : Owner} {db mb fb kind pos : Nat} {D : DS} {F : ByteArray → Option Nat} {s : ByteArray} {v : KV} {o : Option (List Nat)} {nv' : Value}
    (hc : Core w O db mb D F) (hf : ∀ x ∈ D.names, ∃ fb, F x = some fb ∧ FileAt w O (db + 1) x fb (D.now x) (D.safe x) (mine x D.chs))
    (hB : Below w.heap.size w w0) (hFs : F s = some fb) (hv : FileV w O (db + 1) s fb (D.now s) (D.safe s) (mine s D.chs) v)
    (hbuf : Buf w (db + 1) 5 nv' (o.getD [])) (hown : ∀ g, nv'.ownBlock = some g → (v.now (szO (D.now s))).ownBlock = some g) (hsh : Share v.sh nv' (v.safe (szO (D.safe s))) (szO o) (szO (D.safe s)))
    (hN : Noted (setNow w0 fb o.isSome nv') db mb fb (D.room : Int) (D.used : Int) D.made D.fails o.isSome (D.safe s).isSome v.sh nv' (v.safe (szO (D.safe s))) (v.chs (mine s D.chs).length) (mine s D.chs) ⟨0, kind, pos, ⟨#[]⟩⟩ (db + 1) W4) :
    ∃ O', DiskAt (W4.setCell ⟨db, 2, none⟩ (.int .i64 ((D.used - (szO (D.now s) - szO o) : Nat) : Int))) O' db (D.chg s o kind pos) ∧
      Past w O (W4.setCell ⟨db, 2, none⟩ (.int .i64 ((D.used - (szO (D.now s) - szO o) : Nat) : Int))) O' := by
  obtain ⟨u, hu⟩ : ∃ u : Value, .int .i64 ((D.used - (szO (D.now s) - szO o) : Nat) : Int) = u := ⟨_, rfl⟩
  rw [hu]
  have hdb := hc.disk.lt
  have hmb : mb < w.heap.size := hc.lt mb (by rw [hc.omb]; simp)
  obtain ⟨v1, v2, v3, v4, v5, v6, v7⟩ := hv
  obtain ⟨cv', y1, y2, y3, y4, y5, y6, y7, y8, y9⟩ := hN
  have hfb := v1.lt
  have hdbf : db ≠ fb := fun e => by rw [← e, hc.odb] at v6; cases v6
  have hmbf : mb ≠ fb := fun e => by rw [← e, hc.omb] at v6; cases v6
  have hdbm : db ≠ mb := fun e => by
    obtain ⟨n, _, hm⟩ := hc.map
    obtain ⟨a, c, h2⟩ := hm.isMap
    have h1 := hc.disk
    unfold DB at h1
    rw [e, h2] at h1
    cases h1
  have hs0 := setNow_size w0 fb o.isSome nv'
  have hoth := fun k (hk : k ≠ fb) => setNow_other (W := w0) (there := o.isSome) (v := nv') hk
  have h3 : (setNow w0 fb o.isSome nv').os = w0.os ∧ (setNow w0 fb o.isSome nv').tape = w0.tape ∧ (setNow w0 fb o.isSome nv').output = w0.output := ⟨rfl, rfl, rfl⟩
  rw [hs0] at y8 y9
  rw [h3.1] at y5
  rw [h3.2.1] at y6
  rw [h3.2.2] at y7
  have hBs := hB.size
  have hset : ∀ k, k ≠ db → (W4.setCell ⟨db, 2, none⟩ u).heap[k]? = W4.heap[k]? := fun k hk => Below.heap_setCell _ _ _ _ hk
  have hsz : (W4.setCell ⟨db, 2, none⟩ u).heap.size = W4.heap.size := by simp [World.setCell]
  have hkeep : ∀ k, k < w.heap.size → k ≠ db → k ≠ fb → (v.chs (mine s D.chs).length).ownBlock ≠ some k → (W4.setCell ⟨db, 2, none⟩ u).heap[k]? = w.heap[k]? := fun k hk h1 h2 h4 => by
    rw [hset k h1, y9 k (by omega) h1 h2 h4, hoth k h2, hB.block k hk]
  have hcmb : (v.chs (mine s D.chs).length).ownBlock ≠ some mb := fun e => by
    have := v7 mb (.inr (.inr e)); rw [hc.omb] at this; cases this
  -- a row of bytes lies in no row of changes
  have hcn : ∀ {b1 : Nat} {x : Value} {bs : List Nat}, Buf w b1 5 x bs → ∀ g, x.ownBlock = some g → (v.chs (mine s D.chs).length).ownBlock ≠ some g := fun {b1 x bs} hx g hg e => by
    rcases hx.2 with ⟨h1, _⟩ | ⟨g1, cap, cur, h1, _, h2, _⟩
    · rw [h1] at hg; cases hg
    · rcases v5.2 with ⟨h3, _⟩ | ⟨g2, cap2, cur2, h3, _, h4, _⟩
      · rw [h3] at e; cases e
      · rw [h1] at hg; rw [h3] at e
        have e1 : g1 = g := by simpa [Value.ownBlock] using hg
        have e2 : g2 = g := by simpa [Value.ownBlock] using e
        subst e1 e2
        rw [h2] at h4
        have := Option.some.inj h4
        injection this with _ h5 _
        exact absurd h5 (by decide)
  have hB4 : ∀ {b1 : Nat} {x : Value} {bs : List Nat}, Buf w (db + 1) 5 x bs → Buf (W4.setCell ⟨db, 2, none⟩ u) (db + 1) 5 x bs := fun {b1 x bs} hx => hx.keep fun g hg => by
    have h1 := hx.own g hg
    exact hkeep g h1.2 (by omega) (fun e => buf_not_file v1 hx (e ▸ hg)) (hcn hx g hg)
  refine ⟨own O w.heap.size (W4.setCell ⟨db, 2, none⟩ u).heap.size s, DiskAt.turned (s := s) (fb := fb) (F' := F) hc (fun x hx _ => hf x hx) ?_ ?_ ?_ (by rw [hsz]; omega) ?_ ?_ ?_ (y5.symm.trans hB.os) (y6.symm.trans hB.tape) (y7.symm.trans hB.output)⟩
  · show (W4.setCell ⟨db, 2, none⟩ u).heap[db]? = some (.cells #[.map (some mb), .int .i64 (D.room : Int), .int .i64 ((D.used - (szO (D.now s) - szO o) : Nat) : Int), .int .i64 ((D.made + 1 : Nat) : Int), .bool D.fails] 62 (0, 0))
    rw [hu]
    exact (block_set y1 2 u).trans (by simp)
  · obtain ⟨n, hn, hm⟩ := hc.map
    exact ⟨n, by show n ≤ D.made + 1; omega, hm.at (hkeep mb hmb (Ne.symm hdbm) hmbf hcmb)⟩
  · exact hc.dom
  · intro k hk ho
    obtain ⟨h1, h2⟩ := not_of_owner ho
    exact hkeep k hk (fun e => h1 (e ▸ hc.odb)) (fun e => h2 (e ▸ v6)) (fun e => h2 (v7 k (.inr (.inr e))))
  · intro x hx hxs
    refine ⟨hx, rfl, upd_other _ _ hxs, rfl, ?_⟩
    show mine x (D.chs ++ [(s, _)]) = _
    rw [mine_append, mine_one_other _ (Ne.symm hxs), List.append_nil]
  · intro _
    refine ⟨hFs, ?_⟩
    have e1 : (D.chg s o kind pos).now s = o := upd_same _ _ _
    have e2 : mine s (D.chg s o kind pos).chs = mine s D.chs ++ [⟨D.made, kind, pos, ⟨#[]⟩⟩] := by
      show mine s (D.chs ++ [(s, _)]) = _
      rw [mine_append, mine_one]
    rw [e1, e2]
    refine ⟨v.sh, nv', v.safe (szO (D.safe s)), cv', (hset fb (Ne.symm hdbf)).trans y2, hB4 (b1 := 0) hbuf, hB4 (b1 := 0) v3, by rw [szO_getD, szO_getD]; exact hsh, y3.keep (fun g hg => hset g (by have := (y3.own g hg).1; omega)), ?_, ?_⟩
    · rw [own_old hfb]; exact v6
    · rintro g (hg | hg | hg)
      · rw [own_old (v2.own g (hown g hg)).2]; exact v7 g (.inl (hown g hg))
      · rw [own_old (v3.own g hg).2]; exact v7 g (.inr (.inl hg))
      · rcases y4 with h1 | ⟨g2, h1, h2⟩
        · rw [h1] at hg; rw [own_old (v5.own g hg).2]; exact v7 g (.inr (.inr hg))
        · rw [hg] at h1
          have : g = g2 := by simpa using h1
          rw [hs0] at h2
          exact own_new (by omega) (by rw [hsz]; exact (y3.own g hg).2)

end Go.Proofs.YtnhkpemajknfnaaGreatDoor.Disk

/-
  Contracts of the disk's Cut and Remove.
-/
namespace Go.Proofs.YtnhkpemajknfnaaGreatDoor.Disk
open Go Go.RowKit Go.Sort Go.Lib Go.Proofs.YtnhkpemajknfnaaGreatDoor.Law

/-- What a cut leaves. -/
def CutDone (w : World) (O : Owner) (db : Nat) (D : DS) (s : ByteArray) (k : Int) (e : Ending) (W : World) : Prop :=
  e = .returned (.int .i64 (D.cutN s k : Nat)) ∧ ∃ O', DiskAt W O' db (D.cut s k) ∧ Past w O W O'

theorem buf_facts {W : World} {base : Nat} {A : Option Addr} {n c : Nat} {bs : List Nat} (h : Buf W base 5 (.slice A n c) bs) : (A = none → c = 0) ∧ (∀ a, A = some a → a.spot = none) ∧ n ≤ c ∧ c ≤ maxLen := by
  rcases h.2 with ⟨h1, _⟩ | ⟨g, cap', cur, h1, _, _, h2, _, h3, _⟩
  · simp only [Value.slice.injEq] at h1
    obtain ⟨rfl, rfl, rfl⟩ := h1
    exact ⟨fun _ => rfl, (fun a e => by cases e), Nat.le_refl _, Nat.zero_le _⟩
  · simp only [Value.slice.injEq] at h1
    obtain ⟨rfl, rfl, rfl⟩ := h1
    exact ⟨(fun e => by cases e), (fun a e => by obtain rfl := (Option.some.inj e).symm; rfl), h2, h3⟩

/-- The blocks of a file lie otherwise than its changes. -/
theorem filev_apart {W : World} {O : Owner} {base fb : Nat} {s : ByteArray} {now safe : Option (List Nat)} {cs : List Chg} {v : KV} (h : FileV W O base s fb now safe cs v) : ∀ g, (v.chs cs.length).ownBlock = some g → g ≠ fb := fun g hg e => by
  obtain ⟨v1, v2, v3, v4, v5, v6, v7⟩ := h
  rcases v5.2 with ⟨h1, _⟩ | ⟨g1, cap, cur, h1, _, h2, _⟩
  · rw [h1] at hg; cases hg
  · rw [h1] at hg
    have : g1 = g := by simpa [Value.ownBlock] using hg
    subst this
    unfold FB at v1
    rw [e, v1] at h2
    have := Option.some.inj h2
    injection this with _ h2 _
    exact absurd h2 (by decide)

set_option maxRecDepth 100000 in
set_option maxHeartbeats 4000000 in
theorem cut_ok (w : World) (O : Owner) (db : Nat) (D : DS) (h : DiskAt w O db D) (hw : WF D) (hmade : D.made ≤ 4294967296) (s : ByteArray) (k : Nat) (hr : refN D.fails s (k : Int) = 0) (hnow : (D.now s).isSome = true) (hk : k ≤ szO (D.now s)) :
    Calls Tryz.prog 82 #[.pointer (some ⟨db, 0, none⟩), .string s, .int .i64 (k : Nat)] w fun e W => e = .returned (.int .i64 0) ∧ ∃ O', DiskAt W O' db (D.cutD s k) ∧ Past w O W O' := by
  obtain ⟨_, hright, _⟩ := refN_zero hr
  have hs := short_right hright
  obtain ⟨mb, F, hc, hf⟩ := id h
  have hin : s ∈ D.names := (hw.names s).2 (.inl fun e => by rw [e] at hnow; cases hnow)
  obtain ⟨fb, hF, hfile⟩ := hf s hin
  obtain ⟨v, hv⟩ := hfile.vals
  obtain ⟨n, hn, hm⟩ := hc.map
  have hdb := hc.disk.lt
  have hmbl : mb < w.heap.size := hc.lt mb (by rw [hc.omb]; simp)
  have CR := Lib.hid (refusal_calls db mb _ _ _ _ s (by unfold Short at hs; simp only [maxLen] at hs; omega) (k : Int) w hc.disk)
  rw [hr] at CR
  have hsz := hw.nowLe s
  have hus := hw.usedLe
  have hu2 : D.used ≤ 4611686018427387904 := Nat.le_trans hus (Nat.le_trans (Nat.mul_le_mul_right _ hmade) (by decide))
  have hge : szO (D.now s) ≤ D.used := by rw [hw.used]; exact total_ge _ _ _ hin
  obtain ⟨v1, v2, v3, v4, v5, v6, v7⟩ := id hv
  obtain ⟨b1, b2, b3, b4⟩ := buf_facts v2
  have hcut := v2.cut k (by rw [szO_getD]; exact hk) (fun e => by have := b1 e; omega)
  have CK : Hid (∀ W, Below w.heap.size w W → Calls Tryz.prog 28 #[.pointer (some ⟨db, 0, none⟩), .string s] W (KnownOut W (.agg #[.bool (D.now s).isSome, v.now (szO (D.now s)), .bool (D.safe s).isSome, v.safe (szO (D.safe s)), .bool v.sh, v.chs (mine s D.chs).length]))) := Lib.hid fun W hB =>
    known_some db mb _ _ _ _ n F s hs W (hc.disk.below hB) (hm.at (hB.block mb hmbl)) fb hF _ _ _ _ _ _ _ _ _ _ _ _ (v1.below hB)
  have HX : Hid (∀ W, Below w.heap.size w W → W.cell? ⟨db, 0, none⟩ = some (.map (some mb)) ∧ (Instr.lookup 60 (.map (some mb)) (.string s) false).run Tryz.prog W = .ok (.pointer (some ⟨fb, 0, none⟩)) W) := Lib.hid fun W hB => by
    refine ⟨(hc.disk.below hB).cells.1.1, ?_⟩
    have := (hm.at (W' := W) (hB.block _ hmbl)).look Tryz.underlying9 Tryz.underlying60 (zero_ptr _) hs
    rwa [hF] at this
  have CC : Hid (∀ W, Calls Tryz.prog 66 #[.agg #[.bool (D.now s).isSome, v.now (szO (D.now s))], .int .i64 (k : Nat)] W (CutOut W v.na k)) := Lib.hid fun W => cut_calls _ v.na (szO (D.now s)) v.nc k b1 b2 (by omega) (by simp only [maxLen] at b4; omega) W
  -- the file's cells, and what note makes of it
  have HN : Hid (∀ W, Below w.heap.size w W → (W.frozen? ⟨fb, 0, none⟩ = false ∧ W.frozen? ⟨fb, 1, none⟩ = false ∧ (∃ q, W.cell? ⟨fb, 0, none⟩ = some q) ∧ (∃ q, W.cell? ⟨fb, 1, none⟩ = some q)) ∧
      Hid (Calls Tryz.prog 31 #[.pointer (some ⟨db, 0, none⟩), .pointer (some ⟨fb, 0, none⟩), .agg #[.int .i64 0, .int .i64 1, .int .i64 (k : Nat), .string ⟨#[]⟩]] (setNow W fb true (.slice v.na k k)) fun e W4 => e = .returned (.tuple #[]) ∧
        (∀ j, w.heap.size ≤ j → j < W.heap.size → W4.heap[j]? = W.heap[j]?) ∧ W.heap.size ≤ W4.heap.size ∧
        Hid (∀ W5, Below W4.heap.size W4 W5 → (W5.cell? ⟨db, 2, none⟩ = some (.int .i64 (D.used : Int)) ∧ W5.frozen? ⟨db, 2, none⟩ = false) ∧
          Hid (∃ O', DiskAt (W5.setCell ⟨db, 2, none⟩ (.int .i64 ((D.used - (szO (D.now s) - k) : Nat) : Int))) O' db (D.cutD s k) ∧ Past w O (W5.setCell ⟨db, 2, none⟩ (.int .i64 ((D.used - (szO (D.now s) - k) : Nat) : Int))) O')))) := Lib.hid fun W hB => by
    have hfb := v1.below hB
    refine ⟨⟨hfb.cells.2 0, hfb.cells.2 1, ⟨_, hfb.cells.1.1⟩, ⟨_, hfb.cells.1.2.1⟩⟩, Lib.hid ?_⟩
    have hdbf : db ≠ fb := fun e => by rw [← e, hc.odb] at v6; cases v6
    have hfl := v1.lt
    have hs1 := setNow_size W fb true (.slice v.na k k)
    have hBs := hB.size
    have hd0 : DB (setNow W fb true (.slice v.na k k)) db mb (D.room : Int) (D.used : Int) D.made D.fails := (setNow_other hdbf).trans (hc.disk.below hB)
    have hf0 : FB (setNow W fb true (.slice v.na k k)) fb true (.slice v.na k k) (D.safe s).isSome (v.safe (szO (D.safe s))) v.sh (v.chs (mine s D.chs).length) := setNow_file hfb
    have hap := filev_apart hv
    have hC0 : OwnC (setNow W fb true (.slice v.na k k)) (db + 1) (v.chs (mine s D.chs).length) (mine s D.chs) := v5.keep fun g hg => (setNow_other (hap g hg)).trans (hB.block g (v5.own g hg).2)
    have hml := hw.mineLe s
    refine (note_calls db mb fb (D.room : Int) (D.used : Int) D.made (by omega) D.fails true (D.safe s).isSome v.sh v.na v.sa v.ca k k (szO (D.safe s)) v.sc (mine s D.chs).length v.cc (mine s D.chs) ⟨0, 1, k, ⟨#[]⟩⟩ (db + 1) (setNow W fb true (.slice v.na k k)) hd0 hf0 hdbf hC0 (by omega) (Nat.lt_succ_self _) hap (by omega)).mono ?_
    rintro e W4 ⟨rfl, hN⟩
    obtain ⟨cv', y1, y2, y3, y4, y5, y6, y7, y8, y9⟩ := id hN
    rw [hs1] at y8 y9
    refine ⟨rfl, fun j h1 h2 => ?_, y8, Lib.hid fun W5 hB5 => ?_⟩
    · have h3 : (v.chs (mine s D.chs).length).ownBlock ≠ some j := fun e => by have := (v5.own j e).2; omega
      rw [y9 j h2 (by omega) (by omega) h3, setNow_other (by omega)]
    · have hN5 : Noted (setNow W fb true (.slice v.na k k)) db mb fb (D.room : Int) (D.used : Int) D.made D.fails true (D.safe s).isSome v.sh (.slice v.na k k) (v.safe (szO (D.safe s))) (v.chs (mine s D.chs).length) (mine s D.chs) ⟨0, 1, k, ⟨#[]⟩⟩ (db + 1) W5 := by
        refine ⟨cv', y1.below hB5, y2.below hB5, y3.keep (fun g hg => hB5.block g (y3.own g hg).2), y4, y5.trans hB5.os.symm, y6.trans hB5.tape.symm, y7.trans hB5.output.symm, by rw [hs1]; have := hB5.size; omega, fun j h1 h2 h3 h4 => ?_⟩
        rw [hs1] at h1
        rw [hB5.block j (by omega), y9 j h1 h2 h3 h4]
      have hd5 := y1.below hB5
      refine ⟨⟨hd5.cells.1.2.2.1, hd5.cells.2 2⟩, Lib.hid ?_⟩
      rw [cutD_chg D s k hk]
      have hk2 : szO (some (((D.now s).getD []).take k)) = k := by
        show (List.take _ _).length = k
        rw [List.length_take, szO_getD]; omega
      have hsh : Share v.sh (.slice v.na k k) (v.safe (szO (D.safe s))) (szO (some (((D.now s).getD []).take k))) (szO (D.safe s)) := fun g h1 h2 => by
        obtain ⟨h3, _⟩ := v4 g (by rw [own_any v.na _ _ k k]; exact h1) h2
        exact ⟨h3, .inr ⟨_, _, rfl⟩⟩
      have := chg_done (o := some (((D.now s).getD []).take k)) (nv' := .slice v.na k k) (kind := 1) (pos := k) hc hf hB hF hv hcut (fun g hg => by rw [own_any v.na _ _ k k]; exact hg) hsh hN5
      rwa [hk2] at this
  obtain ⟨ns, hns⟩ : ∃ ns, szO (D.now s) = ns := ⟨_, rfl⟩
  obtain ⟨u, hu⟩ : ∃ u, D.used = u := ⟨_, rfl⟩
  rw [hns] at CK CC hsz hge HN hk
  rw [hu] at HN hu2 hge
  rw [hnow] at CK CC
  obtain ⟨sh, na, nc, sa, sc, ca, cc⟩ := v
  obtain ⟨st, hst⟩ : ∃ st, (D.safe s).isSome = st := ⟨_, rfl⟩
  obtain ⟨sl, hsl⟩ : ∃ sl, szO (D.safe s) = sl := ⟨_, rfl⟩
  obtain ⟨cl, hcl⟩ : ∃ cl, (mine s D.chs).length = cl := ⟨_, rfl⟩
  rw [hst, hsl, hcl] at CK
  simp only [KV.now, KV.safe, KV.chs] at CK CC HN
  have q0 := field_now true st sh na sa ca ns nc sl sc cl cc
  obtain ⟨m, hm2⟩ : ∃ m, ns - k = m := ⟨_, rfl⟩
  rw [hm2] at HN
  have e1 : ((ns : Int) - (k : Int)) = (m : Int) := by omega
  have e2 : ((u : Int) - (m : Int)) = ((u - m : Nat) : Int) := by omega
  have hkI : ¬ (ns : Int) < (k : Int) := by omega
  clear v1 v2 v3 v4 v5 v6 v7 b1 b2 b3 b4 hcut hv hfile hF hm hn hf hc h hw hs hright hr hin hmbl hdb hns hu hst hsl hcl hus hnow hmade hm2
  go_enter Tryz.func82, Tryz.ntmps82
  go_wp2_with fail
  refine CR.out.mono ?_
  rintro e W ⟨rfl, hB⟩
  go_wp2_with fail
  refine (CK.out W hB).mono ?_
  rintro e W2 ⟨rfl, hB2⟩
  have hBB := hB.trans (hB2.mono hB.size)
  have hB3 : Below w.heap.size w (W2.alloc (.cells #[.bool true, .slice na ns nc] 65)) := hBB.alloc hBB.size _
  have HB3 := Lib.hid hB3
  obtain ⟨x0, _⟩ := HX.out _ hB3
  clear hB hB2 CK CR
  go_wp2_with (first | (refine wpList_lookup_ran (o := ⟨some 34, _, _, _, _, _⟩) rfl _ _ _ _ rfl rfl rfl (HX.out _ HB3.out).2 ?_))
  refine (CC.out _).mono ?_
  rintro e W3 ⟨rfl, hB4⟩
  have hB5 := HB3.out.trans (hB4.mono HB3.out.size)
  obtain ⟨⟨z0, z1, ⟨_, f0⟩, ⟨_, f1⟩⟩, HNN⟩ := HN.out W3 hB5
  have hbx : W3.heap[W2.heap.size]? = some (.cells #[.bool true, .slice na ns nc] 65 (0, 0)) := (hB4.block _ (by simp)).trans (heap_alloc_new W2 _)
  have HBX := Lib.hid hbx
  have hlt : W2.heap.size < W3.heap.size := (Array.getElem?_eq_some_iff.1 hbx).1
  have hw2 : w.heap.size ≤ W2.heap.size := hBB.size
  clear CC hB4 hB5 HN HB3 hB3 x0 hbx
  go_wp2_with fail
  change Calls _ _ _ (setNow W3 fb true (.slice na k k)) _
  refine HNN.out.mono ?_
  rintro e W4 ⟨rfl, hsame, hsz4, HF⟩
  have hbx4 : W4.heap[W2.heap.size]? = some (.cells #[.bool true, .slice na ns nc] 65 (0, 0)) := (hsame _ hw2 hlt).trans HBX.out
  have b1 : W4.cell? ⟨W2.heap.size, 1, none⟩ = some (.slice na ns nc) := by simp [World.cell?, hbx4]
  have B1 := cell_regrown b1
  obtain ⟨⟨d2, _⟩, _⟩ := HF.out W4 (Below.refl _ _)
  have D2 := cell_regrown d2
  clear hsame hbx4 HNN HBX b1 d2
  go_wp2_with fail
  refine wp_region_quiet_tail (C := fun w' => ∃ p : Regrown, w' = grow (redrawn W4 p.d) p.os) 10 (by kernel_rfl) (by kernel_rfl) ⟨⟨W4.drawn + 1, #[]⟩, by rw [grow_empty]; rfl⟩ ?_
  simp only [List.take_succ_cons, List.take_zero, List.drop_succ_cons, List.drop_zero]
  repeat (go_big_quiet_step (fail))
  refine wpQuiet_nil ?_
  intro wq hq
  obtain ⟨⟨dq, osq⟩, rfl⟩ := hq
  obtain ⟨⟨d2, dz⟩, HFIN⟩ := HF.out _ (below_regrown W4 dq osq)
  clear HF D2 B1
  generalize grow (redrawn W4 dq) osq = wq at d2 dz HFIN ⊢
  go_wp2_with fail
  go_ret
  exact ⟨rfl, HFIN.out⟩

set_option maxRecDepth 100000 in
set_option maxHeartbeats 4000000 in
theorem remove_ok (w : World) (O : Owner) (db : Nat) (D : DS) (h : DiskAt w O db D) (hw : WF D) (hmade : D.made ≤ 4294967296) (s : ByteArray) (hr : refN D.fails s 0 = 0) (hnow : (D.now s).isSome = true) :
    Calls Tryz.prog 88 #[.pointer (some ⟨db, 0, none⟩), .string s] w fun e W => e = .returned (.int .i64 0) ∧ ∃ O', DiskAt W O' db (D.removeD s) ∧ Past w O W O' := by
  obtain ⟨_, hright, _⟩ := refN_zero hr
  have hs := short_right hright
  obtain ⟨mb, F, hc, hf⟩ := id h
  have hin : s ∈ D.names := (hw.names s).2 (.inl fun e => by rw [e] at hnow; cases hnow)
  obtain ⟨fb, hF, hfile⟩ := hf s hin
  obtain ⟨v, hv⟩ := hfile.vals
  obtain ⟨n, hn, hm⟩ := hc.map
  have hdb := hc.disk.lt
  have hmbl : mb < w.heap.size := hc.lt mb (by rw [hc.omb]; simp)
  have CR := Lib.hid (refusal_calls db mb _ _ _ _ s (by unfold Short at hs; simp only [maxLen] at hs; omega) 0 w hc.disk)
  rw [hr] at CR
  have hsz := hw.nowLe s
  have hus := hw.usedLe
  have hu2 : D.used ≤ 4611686018427387904 := Nat.le_trans hus (Nat.le_trans (Nat.mul_le_mul_right _ hmade) (by decide))
  have hge : szO (D.now s) ≤ D.used := by rw [hw.used]; exact total_ge _ _ _ hin
  obtain ⟨v1, v2, v3, v4, v5, v6, v7⟩ := id hv
  have CK : Hid (∀ W, Below w.heap.size w W → Calls Tryz.prog 28 #[.pointer (some ⟨db, 0, none⟩), .string s] W (KnownOut W (.agg #[.bool (D.now s).isSome, v.now (szO (D.now s)), .bool (D.safe s).isSome, v.safe (szO (D.safe s)), .bool v.sh, v.chs (mine s D.chs).length]))) := Lib.hid fun W hB =>
    known_some db mb _ _ _ _ n F s hs W (hc.disk.below hB) (hm.at (hB.block mb hmbl)) fb hF _ _ _ _ _ _ _ _ _ _ _ _ (v1.below hB)
  have HX : Hid (∀ W, Below w.heap.size w W → W.cell? ⟨db, 0, none⟩ = some (.map (some mb)) ∧ (Instr.lookup 60 (.map (some mb)) (.string s) false).run Tryz.prog W = .ok (.pointer (some ⟨fb, 0, none⟩)) W) := Lib.hid fun W hB => by
    refine ⟨(hc.disk.below hB).cells.1.1, ?_⟩
    have := (hm.at (W' := W) (hB.block _ hmbl)).look Tryz.underlying9 Tryz.underlying60 (zero_ptr _) hs
    rwa [hF] at this
  -- the file's cells, and what note makes of it
  have HN : Hid (∀ W, Below w.heap.size w W → (W.frozen? ⟨fb, 0, none⟩ = false ∧ W.frozen? ⟨fb, 1, none⟩ = false ∧ (∃ q, W.cell? ⟨fb, 0, none⟩ = some q) ∧ (∃ q, W.cell? ⟨fb, 1, none⟩ = some q)) ∧
      Hid (Calls Tryz.prog 31 #[.pointer (some ⟨db, 0, none⟩), .pointer (some ⟨fb, 0, none⟩), .agg #[.int .i64 0, .int .i64 2, .int .i64 0, .string ⟨#[]⟩]] (setNow W fb false (.slice none 0 0)) fun e W4 => e = .returned (.tuple #[]) ∧
        (∀ j, w.heap.size ≤ j → j < W.heap.size → W4.heap[j]? = W.heap[j]?) ∧ W.heap.size ≤ W4.heap.size ∧
        Hid (∀ W5, Below W4.heap.size W4 W5 → (W5.cell? ⟨db, 2, none⟩ = some (.int .i64 (D.used : Int)) ∧ W5.frozen? ⟨db, 2, none⟩ = false) ∧
          Hid (∃ O', DiskAt (W5.setCell ⟨db, 2, none⟩ (.int .i64 ((D.used - szO (D.now s) : Nat) : Int))) O' db (D.removeD s) ∧ Past w O (W5.setCell ⟨db, 2, none⟩ (.int .i64 ((D.used - szO (D.now s) : Nat) : Int))) O')))) := Lib.hid fun W hB => by
    have hfb := v1.below hB
    refine ⟨⟨hfb.cells.2 0, hfb.cells.2 1, ⟨_, hfb.cells.1.1⟩, ⟨_, hfb.cells.1.2.1⟩⟩, Lib.hid ?_⟩
    have hdbf : db ≠ fb := fun e => by rw [← e, hc.odb] at v6; cases v6
    have hfl := v1.lt
    have hs1 := setNow_size W fb false (.slice none 0 0)
    have hBs := hB.size
    have hd0 : DB (setNow W fb false (.slice none 0 0)) db mb (D.room : Int) (D.used : Int) D.made D.fails := (setNow_other hdbf).trans (hc.disk.below hB)
    have hf0 : FB (setNow W fb false (.slice none 0 0)) fb false (.slice none 0 0) (D.safe s).isSome (v.safe (szO (D.safe s))) v.sh (v.chs (mine s D.chs).length) := setNow_file hfb
    have hap := filev_apart hv
    have hC0 : OwnC (setNow W fb false (.slice none 0 0)) (db + 1) (v.chs (mine s D.chs).length) (mine s D.chs) := v5.keep fun g hg => (setNow_other (hap g hg)).trans (hB.block g (v5.own g hg).2)
    have hml := hw.mineLe s
    refine (note_calls db mb fb (D.room : Int) (D.used : Int) D.made (by omega) D.fails false (D.safe s).isSome v.sh none v.sa v.ca 0 0 (szO (D.safe s)) v.sc (mine s D.chs).length v.cc (mine s D.chs) ⟨0, 2, 0, ⟨#[]⟩⟩ (db + 1) (setNow W fb false (.slice none 0 0)) hd0 hf0 hdbf hC0 (by omega) (Nat.lt_succ_self _) hap (by omega)).mono ?_
    rintro e W4 ⟨rfl, hN⟩
    obtain ⟨cv', y1, y2, y3, y4, y5, y6, y7, y8, y9⟩ := id hN
    rw [hs1] at y8 y9
    refine ⟨rfl, fun j h1 h2 => ?_, y8, Lib.hid fun W5 hB5 => ?_⟩
    · have h3 : (v.chs (mine s D.chs).length).ownBlock ≠ some j := fun e => by have := (v5.own j e).2; omega
      rw [y9 j h2 (by omega) (by omega) h3, setNow_other (by omega)]
    · have hN5 : Noted (setNow W fb false (.slice none 0 0)) db mb fb (D.room : Int) (D.used : Int) D.made D.fails false (D.safe s).isSome v.sh (.slice none 0 0) (v.safe (szO (D.safe s))) (v.chs (mine s D.chs).length) (mine s D.chs) ⟨0, 2, 0, ⟨#[]⟩⟩ (db + 1) W5 := by
        refine ⟨cv', y1.below hB5, y2.below hB5, y3.keep (fun g hg => hB5.block g (y3.own g hg).2), y4, y5.trans hB5.os.symm, y6.trans hB5.tape.symm, y7.trans hB5.output.symm, by rw [hs1]; have := hB5.size; omega, fun j h1 h2 h3 h4 => ?_⟩
        rw [hs1] at h1
        rw [hB5.block j (by omega), y9 j h1 h2 h3 h4]
      have hd5 := y1.below hB5
      refine ⟨⟨hd5.cells.1.2.2.1, hd5.cells.2 2⟩, Lib.hid ?_⟩
      rw [removeD_chg D s]
      have := chg_done (o := none) (nv' := .slice none 0 0) (kind := 2) (pos := 0) hc hf hB hF hv (Buf.nil _ _ _) (fun g hg => by cases hg) (fun g h1 _ => by cases h1) hN5
      exact this
  obtain ⟨ns, hns⟩ : ∃ ns, szO (D.now s) = ns := ⟨_, rfl⟩
  obtain ⟨u, hu⟩ : ∃ u, D.used = u := ⟨_, rfl⟩
  rw [hns] at CK hsz hge HN
  rw [hu] at HN hu2 hge
  rw [hnow] at CK
  obtain ⟨sh, na, nc, sa, sc, ca, cc⟩ := v
  obtain ⟨st, hst⟩ : ∃ st, (D.safe s).isSome = st := ⟨_, rfl⟩
  obtain ⟨sl, hsl⟩ : ∃ sl, szO (D.safe s) = sl := ⟨_, rfl⟩
  obtain ⟨cl, hcl⟩ : ∃ cl, (mine s D.chs).length = cl := ⟨_, rfl⟩
  rw [hst, hsl, hcl] at CK
  simp only [KV.now, KV.safe, KV.chs] at CK HN
  have q0 := field_now true st sh na sa ca ns nc sl sc cl cc
  have e2 : ((u : Int) - (ns : Int)) = ((u - ns : Nat) : Int) := by omega
  clear v1 v2 v3 v4 v5 v6 v7 hv hfile hF hm hn hf hc h hw hs hright hr hin hmbl hdb hns hu hst hsl hcl hus hnow hmade
  go_enter Tryz.func88, Tryz.ntmps88
  go_wp2_with fail
  refine CR.out.mono ?_
  rintro e W ⟨rfl, hB⟩
  go_wp2_with fail
  refine (CK.out W hB).mono ?_
  rintro e W2 ⟨rfl, hB2⟩
  have hBB := hB.trans (hB2.mono hB.size)
  have hB3 : Below w.heap.size w (W2.alloc (.cells #[.bool true, .slice na ns nc] 65)) := hBB.alloc hBB.size _
  have HB3 := Lib.hid hB3
  obtain ⟨x0, _⟩ := HX.out _ hB3
  obtain ⟨⟨z0, z1, ⟨_, f0⟩, ⟨_, f1⟩⟩, HNN⟩ := HN.out _ hB3
  have hw2 : w.heap.size ≤ W2.heap.size := hBB.size
  clear hB hB2 CK CR HN hB3
  go_wp2_with (first | (refine wpList_lookup_ran (o := ⟨some 26, _, _, _, _, _⟩) rfl _ _ _ _ rfl rfl rfl (HX.out _ HB3.out).2 ?_))
  change Calls _ _ _ (setNow (W2.alloc (.cells #[.bool true, .slice na ns nc] 65)) fb false (.slice none 0 0)) _
  refine HNN.out.mono ?_
  rintro e W4 ⟨rfl, hsame, hsz4, HF⟩
  have hbx4 : W4.heap[W2.heap.size]? = some (.cells #[.bool true, .slice na ns nc] 65 (0, 0)) := (hsame _ hw2 (by simp)).trans (heap_alloc_new W2 _)
  have b1 : W4.cell? ⟨W2.heap.size, 1, none⟩ = some (.slice na ns nc) := by simp [World.cell?, hbx4]
  have B1 := cell_regrown b1
  obtain ⟨⟨d2, _⟩, _⟩ := HF.out W4 (Below.refl _ _)
  have D2 := cell_regrown d2
  clear hsame hbx4 HNN b1 d2
  go_wp2_with fail
  refine wp_region_quiet_tail (C := fun w' => ∃ p : Regrown, w' = grow (redrawn W4 p.d) p.os) 8 (by kernel_rfl) (by kernel_rfl) ⟨⟨W4.drawn + 1, #[]⟩, by rw [grow_empty]; rfl⟩ ?_
  simp only [List.take_succ_cons, List.take_zero, List.drop_succ_cons, List.drop_zero]
  repeat (go_big_quiet_step (fail))
  refine wpQuiet_nil ?_
  intro wq hq
  obtain ⟨⟨dq, osq⟩, rfl⟩ := hq
  obtain ⟨⟨d2, dz⟩, HFIN⟩ := HF.out _ (below_regrown W4 dq osq)
  clear HF D2 B1
  generalize grow (redrawn W4 dq) osq = wq at d2 dz HFIN ⊢
  go_wp2_with fail
  go_ret
  exact ⟨rfl, HFIN.out⟩


set_option maxRecDepth 100000 in
set_option maxHeartbeats 4000000 in
theorem cut_err (w : World) (O : Owner) (db : Nat) (D : DS) (h : DiskAt w O db D) (hw : WF D) (s : ByteArray) (hs63 : s.size ≤ 9223372036854775807) (k : Int) (hk63 : k ≤ 9223372036854775807) (h0 : D.cutN s k ≠ 0) :
    Calls Tryz.prog 82 #[.pointer (some ⟨db, 0, none⟩), .string s, .int .i64 k] w (ErrD w (D.cutN s k)) := by
  obtain ⟨n, hn⟩ : ∃ n, D.cutN s k = n := ⟨_, rfl⟩
  rw [hn] at h0 ⊢
  obtain ⟨mb, hdb⟩ := h.db
  have CR := Lib.hid (refusal_calls db mb _ _ _ _ s hs63 k w hdb)
  by_cases hr : refN D.fails s k = 0
  · obtain ⟨_, hright, hk0⟩ := refN_zero hr
    rw [hr] at CR
    have CK : Hid (∀ W, Below w.heap.size w W → ∃ (na sa ca : Option Addr) (nc sl sc cl cc : Nat) (st sh : Bool), Calls Tryz.prog 28 #[.pointer (some ⟨db, 0, none⟩), .string s] W (KnownOut W (.agg #[.bool (D.now s).isSome, .slice na (szO (D.now s)) nc, .bool st, .slice sa sl sc, .bool sh, .slice ca cl cc]))) := Lib.hid fun W hB => by
      obtain ⟨v, ns, sl, cl, nt, st, ⟨rfl, rfl, _, _⟩, _, _, hc⟩ := known_at (h.below hB) hw s (short_right hright)
      exact ⟨v.na, v.sa, v.ca, v.nc, sl, v.sc, cl, v.cc, st, v.sh, hc⟩
    have hsz := hw.nowLe s
    obtain ⟨kN, rfl⟩ : ∃ kN : Nat, k = (kN : Nat) := ⟨k.toNat, by omega⟩
    cases hq : D.now s with
    | none =>
      have : n = 7 := by
        rw [← hn]; unfold DS.cutN
        rw [if_neg (by rw [hr]; simp), if_pos hq]
      subst this
      rw [hq] at CK
      obtain ⟨ns, hns⟩ : ∃ ns, szO (none : Option (List Nat)) = ns := ⟨_, rfl⟩
      obtain ⟨nt, hnt⟩ : ∃ nt, (none : Option (List Nat)).isSome = nt := ⟨_, rfl⟩
      rw [hns, hnt] at CK
      have hnt2 : nt = false := hnt.symm
      subst hnt2
      clear hn hr hdb h hw h0 hsz hq hns hnt
      go_enter Tryz.func82, Tryz.ntmps82
      go_wp2_with fail
      refine CR.out.mono ?_
      rintro e W ⟨rfl, hB⟩
      go_wp2_with fail
      obtain ⟨na, sa, ca, nc, sl, sc, cl, cc, st, sh, cK⟩ := CK.out W hB
      have CKK := Lib.hid cK
      clear cK
      refine CKK.out.mono ?_
      rintro e W2 ⟨rfl, hB2⟩
      have q0 := field_now false st sh na sa ca ns nc sl sc cl cc
      have HBB := Lib.hid ((hB.trans (hB2.mono hB.size)).alloc (Nat.le_trans hB.size hB2.size) (.cells #[.bool false, .slice na ns nc] 65))
      clear hB hB2 CKK CK
      go_wp2_with fail
      go_ret
      exact ⟨rfl, HBB.out⟩
    | some bs =>
      have h8 : szO (D.now s) < kN ∧ n = 8 := by
        unfold DS.cutN at hn
        rw [if_neg (by rw [hr]; simp), if_neg (by rw [hq]; simp)] at hn
        by_cases hx : (szO (D.now s) : Int) < (kN : Nat)
        · rw [if_pos hx] at hn; exact ⟨by omega, hn.symm⟩
        · rw [if_neg hx] at hn; exact absurd hn.symm h0
      obtain ⟨h9, rfl⟩ := h8
      rw [hq] at CK h9
      obtain ⟨ns, hns⟩ : ∃ ns, szO (some bs) = ns := ⟨_, rfl⟩
      obtain ⟨nt, hnt⟩ : ∃ nt, (some bs : Option (List Nat)).isSome = nt := ⟨_, rfl⟩
      rw [hns, hnt] at CK
      rw [hns] at h9
      have hnt2 : nt = true := hnt.symm
      subst hnt2
      have h9I : (ns : Int) < (kN : Int) := by omega
      clear hn hr hdb h hw h0 hsz hq hns hnt
      go_enter Tryz.func82, Tryz.ntmps82
      go_wp2_with fail
      refine CR.out.mono ?_
      rintro e W ⟨rfl, hB⟩
      go_wp2_with fail
      obtain ⟨na, sa, ca, nc, sl, sc, cl, cc, st, sh, cK⟩ := CK.out W hB
      have CKK := Lib.hid cK
      clear cK
      refine CKK.out.mono ?_
      rintro e W2 ⟨rfl, hB2⟩
      have q0 := field_now true st sh na sa ca ns nc sl sc cl cc
      have HBB := Lib.hid ((hB.trans (hB2.mono hB.size)).alloc (Nat.le_trans hB.size hB2.size) (.cells #[.bool true, .slice na ns nc] 65))
      clear hB hB2 CKK CK
      go_wp2_with fail
      go_ret
      exact ⟨rfl, HBB.out⟩
  · have : n = refN D.fails s k := by
      rw [← hn]; unfold DS.cutN
      rw [if_pos hr]
    rw [← this] at CR
    have hnI : ((n : Int) != 0) = true := by rw [bne_iff_ne]; omega
    clear this hn hr hdb h hw
    go_enter Tryz.func82, Tryz.ntmps82
    go_wp2_with fail
    refine CR.out.mono ?_
    rintro e W ⟨rfl, hB⟩
    go_wp2_with fail
    go_ret
    exact ⟨rfl, hB⟩

set_option maxRecDepth 100000 in
set_option maxHeartbeats 4000000 in
theorem remove_err (w : World) (O : Owner) (db : Nat) (D : DS) (h : DiskAt w O db D) (hw : WF D) (s : ByteArray) (hs63 : s.size ≤ 9223372036854775807) (h0 : D.removeN s ≠ 0) :
    Calls Tryz.prog 88 #[.pointer (some ⟨db, 0, none⟩), .string s] w (ErrD w (D.removeN s)) := by
  obtain ⟨n, hn⟩ : ∃ n, D.removeN s = n := ⟨_, rfl⟩
  rw [hn] at h0 ⊢
  obtain ⟨mb, hdb⟩ := h.db
  have CR := Lib.hid (refusal_calls db mb _ _ _ _ s hs63 0 w hdb)
  by_cases hr : refN D.fails s 0 = 0
  · obtain ⟨_, hright, hk0⟩ := refN_zero hr
    rw [hr] at CR
    have CK : Hid (∀ W, Below w.heap.size w W → ∃ (na sa ca : Option Addr) (nc sl sc cl cc : Nat) (st sh : Bool), Calls Tryz.prog 28 #[.pointer (some ⟨db, 0, none⟩), .string s] W (KnownOut W (.agg #[.bool (D.now s).isSome, .slice na (szO (D.now s)) nc, .bool st, .slice sa sl sc, .bool sh, .slice ca cl cc]))) := Lib.hid fun W hB => by
      obtain ⟨v, ns, sl, cl, nt, st, ⟨rfl, rfl, _, _⟩, _, _, hc⟩ := known_at (h.below hB) hw s (short_right hright)
      exact ⟨v.na, v.sa, v.ca, v.nc, sl, v.sc, cl, v.cc, st, v.sh, hc⟩
    have hq : D.now s = none := by
      unfold DS.removeN at hn
      rw [if_neg (by rw [hr]; simp)] at hn
      by_cases hx : D.now s = none
      · exact hx
      · rw [if_neg hx] at hn; exact absurd hn.symm h0
    have : n = 7 := by
      rw [← hn]; unfold DS.removeN
      rw [if_neg (by rw [hr]; simp), if_pos hq]
    subst this
    rw [hq] at CK
    obtain ⟨ns, hns⟩ : ∃ ns, szO (none : Option (List Nat)) = ns := ⟨_, rfl⟩
    obtain ⟨nt, hnt⟩ : ∃ nt, (none : Option (List Nat)).isSome = nt := ⟨_, rfl⟩
    rw [hns, hnt] at CK
    have hnt2 : nt = false := hnt.symm
    subst hnt2
    clear hn hr hdb h hw h0 hq hns hnt
    go_enter Tryz.func88, Tryz.ntmps88
    go_wp2_with fail
    refine CR.out.mono ?_
    rintro e W ⟨rfl, hB⟩
    go_wp2_with fail
    obtain ⟨na, sa, ca, nc, sl, sc, cl, cc, st, sh, cK⟩ := CK.out W hB
    have CKK := Lib.hid cK
    clear cK
    refine CKK.out.mono ?_
    rintro e W2 ⟨rfl, hB2⟩
    have q0 := field_now false st sh na sa ca ns nc sl sc cl cc
    have HBB := Lib.hid ((hB.trans (hB2.mono hB.size)).alloc (Nat.le_trans hB.size hB2.size) (.cells #[.bool false, .slice na ns nc] 65))
    clear hB hB2 CKK CK
    go_wp2_with fail
    go_ret
    exact ⟨rfl, HBB.out⟩
  · have : n = refN D.fails s 0 := by
      rw [← hn]; unfold DS.removeN
      rw [if_pos hr]
    rw [← this] at CR
    have hnI : ((n : Int) != 0) = true := by rw [bne_iff_ne]; omega
    clear this hn hr hdb h hw
    go_enter Tryz.func88, Tryz.ntmps88
    go_wp2_with fail
    refine CR.out.mono ?_
    rintro e W ⟨rfl, hB⟩
    go_wp2_with fail
    go_ret
    exact ⟨rfl, hB⟩

/-- Cut. -/
theorem cutD_calls (w : World) (O : Owner) (db : Nat) (D : DS) (h : DiskAt w O db D) (hw : WF D) (hmade : D.made ≤ 4294967296) (s : ByteArray) (hs63 : s.size ≤ 9223372036854775807) (k : Int) (hk63 : k ≤ 9223372036854775807) :
    Calls Tryz.prog 82 #[.pointer (some ⟨db, 0, none⟩), .string s, .int .i64 k] w (CutDone w O db D s k) := by
  unfold CutDone
  by_cases h0 : D.cutN s k = 0
  · have hr : refN D.fails s k = 0 := by
      unfold DS.cutN at h0
      by_cases hx : refN D.fails s k = 0
      · exact hx
      · rw [if_pos hx] at h0; exact absurd h0 hx
    obtain ⟨_, _, hk0⟩ := refN_zero hr
    obtain ⟨kN, rfl⟩ : ∃ kN : Nat, k = (kN : Nat) := ⟨k.toNat, by omega⟩
    have h1 : (D.now s).isSome = true ∧ kN ≤ szO (D.now s) := by
      unfold DS.cutN at h0
      rw [if_neg (by rw [hr]; simp)] at h0
      by_cases hq : D.now s = none
      · rw [if_pos hq] at h0; cases h0
      · rw [if_neg hq] at h0
        by_cases hx : (szO (D.now s) : Int) < (kN : Nat)
        · rw [if_pos hx] at h0; cases h0
        · refine ⟨?_, by omega⟩
          cases hq2 : D.now s with
          | none => exact absurd hq2 hq
          | some b => rfl
    have : D.cut s (kN : Nat) = D.cutD s kN := by unfold DS.cut; rw [if_pos h0]; rfl
    rw [h0, this]
    exact cut_ok w O db D h hw hmade s kN hr h1.1 h1.2
  · have : D.cut s k = D := by unfold DS.cut; rw [if_neg h0]
    rw [this]
    refine (cut_err w O db D h hw s hs63 k hk63 h0).mono ?_
    rintro e W ⟨rfl, hB⟩
    exact ⟨rfl, O, h.below hB, Past.of_below O hB⟩
/-- Remove. -/
theorem removeD_calls (w : World) (O : Owner) (db : Nat) (D : DS) (h : DiskAt w O db D) (hw : WF D) (hmade : D.made ≤ 4294967296) (s : ByteArray) (hs63 : s.size ≤ 9223372036854775807) :
    Calls Tryz.prog 88 #[.pointer (some ⟨db, 0, none⟩), .string s] w fun e W => e = .returned (.int .i64 (D.removeN s : Nat)) ∧ ∃ O', DiskAt W O' db (D.remove s) ∧ Past w O W O' := by
  by_cases h0 : D.removeN s = 0
  · have hr : refN D.fails s 0 = 0 := by
      unfold DS.removeN at h0
      by_cases hx : refN D.fails s 0 = 0
      · exact hx
      · rw [if_pos hx] at h0; exact absurd h0 hx
    have h1 : (D.now s).isSome = true := by
      unfold DS.removeN at h0
      rw [if_neg (by rw [hr]; simp)] at h0
      cases hq2 : D.now s with
      | none => rw [hq2] at h0; simp at h0
      | some b => rfl
    have : D.remove s = D.removeD s := by unfold DS.remove; rw [if_pos h0]
    rw [h0, this]
    exact remove_ok w O db D h hw hmade s hr h1
  · have : D.remove s = D := by unfold DS.remove; rw [if_neg h0]
    rw [this]
    refine (remove_err w O db D h hw s hs63 h0).mono ?_
    rintro e W ⟨rfl, hB⟩
    exact ⟨rfl, O, h.below hB, Past.of_below O hB⟩
theorem WF.cut {D : DS} (h : WF D) (s : ByteArray) (k : Int) : WF (D.cut s k) := by
  unfold DS.cut
  by_cases h0 : D.cutN s k = 0
  · rw [if_pos h0]
    unfold DS.cutN at h0
    by_cases hx : refN D.fails s k = 0
    · rw [if_neg (by rw [hx]; simp)] at h0
      by_cases hq : D.now s = none
      · rw [if_pos hq] at h0; cases h0
      · rw [if_neg hq] at h0
        by_cases hy : (szO (D.now s) : Int) < k
        · rw [if_pos hy] at h0; cases h0
        · have hk : k.toNat ≤ szO (D.now s) := by omega
          have := h.nowLe s
          rw [cutD_chg D s k.toNat hk]
          exact h.chg ((h.names s).2 (.inl hq)) (by show (List.take _ _).length ≤ _; rw [List.length_take, szO_getD]; omega) (by omega) (by omega)
    · rw [if_pos hx] at h0; exact absurd h0 hx
  · rw [if_neg h0]; exact h
theorem WF.remove {D : DS} (h : WF D) (s : ByteArray) : WF (D.remove s) := by
  unfold DS.remove
  by_cases h0 : D.removeN s = 0
  · rw [if_pos h0]
    unfold DS.removeN at h0
    by_cases hx : refN D.fails s 0 = 0
    · rw [if_neg (by rw [hx]; simp)] at h0
      by_cases hq : D.now s = none
      · rw [if_pos hq] at h0; cases h0
      · exact h.chg (o := none) (kind := 2) (pos := 0) ((h.names s).2 (.inl hq)) (Nat.zero_le _) (by omega) (by omega)
    · rw [if_pos hx] at h0; exact absurd h0 hx
  · rw [if_neg h0]; exact h

end Go.Proofs.YtnhkpemajknfnaaGreatDoor.Disk
