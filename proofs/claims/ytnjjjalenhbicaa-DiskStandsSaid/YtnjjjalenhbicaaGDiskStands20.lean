/-
  Put together out of texts of one chain: what they hold stands ahead of each.
-/
import Derived.Test.YtnjjjalenhbicaaGDiskStands02
import Derived.Test.YtnjjjalenhbicaaGDiskStands19
/-
  A slice of numbers that came in.
-/
namespace Go.Proofs.Ytnjjjalenhbicaa.Disk
open Go Go.ChangeShapes Go.WideShapes Go.ChangeAt Go.RowKit Go.Deep Go.Proofs.Ytnjjjalenhbicaa.Law

theorem weightsAll_mem {H : Type} {P : Program} {e : TypeId} {d : DataW H} {x : Nat} : ∀ {l : List (DataW H)}, d ∈ l → x ∈ d.weights P e → x ∈ DataW.weightsAll P e l
  | [], h, _ => by cases h
  | a :: l, h, hx => by
    unfold DataW.weightsAll
    rcases List.mem_cons.1 h with rfl | h
    · exact List.mem_append_left _ hx
    · exact List.mem_append_right _ (weightsAll_mem h hx)
theorem open_byte_rows_reach {H : Type} {enc : TypeId × Value → H} {P : Program} {t s e : TypeId} {base : Nat} {W : World} {v : Value} {d : DataW H} {ps : List MemPlace} (ht : P.underlying t = some (.slice s)) (hs : P.underlying s = some (.slice e)) (he : P.underlying e = some (.int .u8))
    (cs1 : P.cellsOf s = 1) (ce : P.cellsOf e = 1) (hval : Value.okWide P W .any base t v) (hy : P.bytesOf e = 1) (h : DataW.Trod enc P W 0 (fun _ => true) true t v d ps) (hw : ((d.weights P t).all (· ≤ reachBytes)) = true) :
    ∃ bss : List (List Nat), ByteRows W.heap.size W v bss ∧ bss.length ≤ maxLen ∧ ∀ j, j < bss.length → (bss.getD j []).length ≤ 140737488351232 := by
  obtain ⟨a1, len0, cap0, rfl⟩ := okWide_slice ht hval
  obtain ⟨fuel, hf⟩ := h
  rcases open_int_rows ht hs he cs1 ce hf with ⟨hcs, hx⟩ | ⟨a, len, cap, A, L, C, Z, hcs, _, hl, hm, hx, hrows⟩
  · simp [Value.cells] at hcs
    obtain ⟨rfl, rfl, rfl⟩ := hcs
    exact ⟨[], ⟨none, 0, rfl, by simp, by simp⟩, by simp [maxLen], by simp⟩
  · simp [Value.cells] at hcs
    obtain ⟨rfl, rfl, rfl⟩ := hcs
    have hlen : ((List.range len0).map fun r => ((Z r).take (L r)).map Int.toNat).length = len0 := by simp
    have hget : ∀ j, j < len0 → ((List.range len0).map fun r => ((Z r).take (L r)).map Int.toNat).getD j [] = ((Z j).take (L j)).map Int.toNat := by
      intro j hj; simp [List.getD, hj]
    refine ⟨(List.range len0).map fun r => ((Z r).take (L r)).map Int.toNat, ⟨some a, cap0, by rw [hlen], by rw [hlen]; exact hl, fun hpos => ?_⟩, by rw [hlen]; omega, fun j hj => ?_⟩
    · rw [hlen] at hpos ⊢
      obtain ⟨ab, ao, spot⟩ := a
      have hspot : spot = none := by simpa [Addr.add] using World.cell?_spot (hrows 0 (by omega)).1
      subst hspot
      have h0 := (hrows 0 (by omega)).1
      rw [Addr.add_lit] at h0
      refine ⟨ab, ao, rfl, block_lt_cell h0, fun j hj => ?_⟩
      obtain ⟨hc, hLC, _, hzl, hwz, hnil, hcell⟩ := hrows j (by omega)
      rw [Addr.add_lit] at hc
      rw [hget j hj]
      have hll : (((Z j).take (L j)).map Int.toNat).length = L j := by simp; omega
      refine ⟨_, hc, A j, C j, by rw [hll], by rw [hll]; exact hLC, hnil, ?_, fun hp => ?_⟩
      · intro x hx
        obtain ⟨z, hz', rfl⟩ := List.mem_map.1 hx
        have := u8_wf (hwz z (List.mem_of_mem_take hz'))
        omega
      · rw [hll] at hp ⊢
        cases hA : A j with
        | none => have := hnil hA; omega
        | some a' =>
          obtain ⟨_, hcs⟩ := hcell a' hA
          obtain ⟨bb, bo, sp⟩ := a'
          have hsp : sp = none := by simpa [Addr.add] using World.cell?_spot (hcs 0 (by omega))
          subst hsp
          have h00 := hcs 0 (by omega)
          rw [Addr.add_lit] at h00
          refine ⟨bb, bo, rfl, block_lt_cell h00, fun i hi => ?_⟩
          have hi' := hcs i (by omega)
          rw [Addr.add_lit] at hi'
          rw [hi']
          have hiz : i < (Z j).length := by omega
          have hb := u8_wf (hwz ((Z j).getD i 0) (by simp [List.getD, hiz]))
          have e1 : (((Z j).take (L j)).map Int.toNat).getD i 0 = ((Z j).getD i 0).toNat := by
            simp [List.getD, hi, hiz]
          rw [e1]
          congr 2
          omega
    · rw [hlen] at hj
      rw [hget j hj]
      obtain ⟨_, hLC, hCm, hzl, _, hnil, _⟩ := hrows j (by omega)
      have hreach : C j ≤ 140737488351232 := by
        cases hA : A j with
        | none => have := hnil hA; omega
        | some a' =>
          simp only [Prod.mk.injEq] at hx
          have hd : d = _ := hx.1
          rw [hd] at hw
          unfold DataW.weights at hw
          rw [ht] at hw
          simp only [List.all_cons, Bool.and_eq_true, List.all_append] at hw
          have hm2 := List.all_eq_true.1 hw.2.1 (C j) (weightsAll_mem (d := intRow .u8 (A j) (L j) (Z j)) (List.mem_map.2 ⟨j, List.mem_range.2 hj, rfl⟩) ?_)
          · simp only [decide_eq_true_eq] at hm2
            unfold reachBytes at hm2
            omega
          · rw [hA]
            show C j ∈ DataW.weights P s (.slice (lits .u8 ((Z j).take (L j))) (lits .u8 ((Z j).drop (L j))))
            unfold DataW.weights
            rw [hs]
            refine List.mem_cons.2 (.inl ?_)
            simp only [lits, List.length_map, List.length_take, List.length_drop, hy]
            omega
      simp
      omega

theorem open_ints_arg {H : Type} {enc : TypeId × Value → H} {P : Program} {t e : TypeId} {base : Nat} {W : World} {v : Value} {d : DataW H} {ps : List MemPlace} (ht : P.underlying t = some (.slice e)) (he : P.underlying e = some (.int .i64)) (hc : P.cellsOf e = 1)
    (hval : Value.okWide P W .any base t v) (h : DataW.Trod enc P W 0 (fun _ => true) true t v d ps) : ∃ zs : List Int, Ints (fun b => b < W.heap.size) W v zs ∧ zs.length ≤ maxLen := by
  obtain ⟨a1, len, cap, rfl⟩ := okWide_slice ht hval
  obtain ⟨fuel, hf⟩ := h
  rcases open_ints ht he hc hf with ⟨hcs, hx⟩ | ⟨a, len', cap', zs, hcs, _, hl, hm, hz, hx, hcell, hwz⟩
  · simp [Value.cells] at hcs
    obtain ⟨rfl, rfl, rfl⟩ := hcs
    exact ⟨[], ⟨none, 0, rfl, by simp, by simp⟩, by simp⟩
  · simp [Value.cells] at hcs
    obtain ⟨rfl, rfl, rfl⟩ := hcs
    simp only [if_true] at hz
    have hlen : (zs.take len).length = len := by simp; omega
    refine ⟨zs.take len, ⟨some a, cap, by rw [hlen], by rw [hlen]; exact hl, fun hp => ?_⟩, by rw [hlen]; omega⟩
    rw [hlen] at hp ⊢
    obtain ⟨ab, ao, spot⟩ := a
    have hspot : spot = none := by simpa [Addr.add] using World.cell?_spot (hcell 0 (by omega))
    subst hspot
    have h0 := hcell 0 (by omega)
    rw [Addr.add_lit] at h0
    refine ⟨ab, ao, rfl, block_lt_cell h0, fun j hj => ?_⟩
    have hj' := hcell j (by omega)
    rw [Addr.add_lit] at hj'
    rw [hj']
    simp [List.getD, hj]

theorem open_ints_reach {H : Type} {enc : TypeId × Value → H} {P : Program} {t e : TypeId} {base : Nat} {W : World} {v : Value} {d : DataW H} {ps : List MemPlace} (ht : P.underlying t = some (.slice e)) (he : P.underlying e = some (.int .i64)) (hc : P.cellsOf e = 1) (hy : P.bytesOf e = 8)
    (hval : Value.okWide P W .any base t v) (h : DataW.Trod enc P W 0 (fun _ => true) true t v d ps) (hw : ((d.weights P t).all (· ≤ reachBytes)) = true) : ∃ zs : List Int, Ints (fun b => b < W.heap.size) W v zs ∧ zs.length * 8 ≤ 140737488351232 ∧ ∀ c, v = .slice none zs.length c → c = 0 := by
  obtain ⟨a1, len, cap, rfl⟩ := okWide_slice ht hval
  obtain ⟨fuel, hf⟩ := h
  rcases open_ints ht he hc hf with ⟨hcs, hx⟩ | ⟨a, len', cap', zs, hcs, _, hl, hm, hz, hx, hcell, hwz⟩
  · simp [Value.cells] at hcs
    obtain ⟨rfl, rfl, rfl⟩ := hcs
    exact ⟨[], ⟨none, 0, rfl, by simp, by simp⟩, by simp, fun c hc => by simpa using hc.symm⟩
  · simp [Value.cells] at hcs
    obtain ⟨rfl, rfl, rfl⟩ := hcs
    simp only [Prod.mk.injEq] at hx
    obtain ⟨rfl, rfl⟩ := hx
    simp only [if_true] at hz
    have hreach : zs.length * 8 ≤ 140737488351232 := by
      unfold DataW.weights at hw
      rw [ht] at hw
      simp only [List.all_cons, Bool.and_eq_true, decide_eq_true_eq, hy, lits, List.length_map, List.length_take, List.length_drop] at hw
      have := hw.1
      unfold reachBytes at this
      omega
    have hlen : (zs.take len).length = len := by simp; omega
    refine ⟨zs.take len, ⟨some a, cap, by rw [hlen], by rw [hlen]; exact hl, fun hp => ?_⟩, by rw [hlen]; omega, fun c hc => by simp at hc⟩
    rw [hlen] at hp ⊢
    obtain ⟨ab, ao, spot⟩ := a
    have hspot : spot = none := by simpa [Addr.add] using World.cell?_spot (hcell 0 (by omega))
    subst hspot
    have h0 := hcell 0 (by omega)
    rw [Addr.add_lit] at h0
    refine ⟨ab, ao, rfl, block_lt_cell h0, fun j hj => ?_⟩
    have hj' := hcell j (by omega)
    rw [Addr.add_lit] at hj'
    rw [hj']
    simp [List.getD, hj]

end Go.Proofs.Ytnjjjalenhbicaa.Disk

/-
  A script of steps of a disk that came in.
-/
namespace Go.Proofs.Ytnjjjalenhbicaa.Disk
open Go Go.ChangeShapes Go.WideShapes Go.ChangeAt Go.RowKit Go.Deep Go.Proofs.Ytnjjjalenhbicaa.Law

structure Step where
  kind : Int
  name : ByteArray
  at' : Int
  data : List Nat
  picks : List Int

/-- The five cells of a step. -/
def StepAt (W : World) (b o : Nat) (s : Step) (dv pv : Value) : Prop :=
  W.cell? ⟨b, o, none⟩ = some (.int .i64 s.kind) ∧ W.cell? ⟨b, o + 1, none⟩ = some (.string s.name) ∧ W.cell? ⟨b, o + 2, none⟩ = some (.int .i64 s.at') ∧ W.cell? ⟨b, o + 3, none⟩ = some dv ∧ W.cell? ⟨b, o + 4, none⟩ = some pv
/-- What its parts are at most. -/
structure Step.fits (s : Step) : Prop where
  low : -9223372036854775808 ≤ s.at'
  high : s.at' ≤ 9223372036854775807
  name : s.name.size ≤ 9223372036854775807
  data : s.data.length ≤ 140737488351232
/-- The slice value reads as these steps. -/
def Steps (n₀ : Nat) (W : World) (v : Value) (l : List Step) : Prop :=
  ∃ A cap, v = .slice A l.length cap ∧ l.length ≤ cap ∧ (0 < l.length → ∃ b off, A = some ⟨b, off, none⟩ ∧ b < n₀ ∧ ∀ (j : Nat) (s : Step), l[j]? = some s →
    s.fits ∧ ∃ dv pv, StepAt W b (off + j * 5) s dv pv ∧ Bytes n₀ W dv s.data ∧ Ints (fun b => b < n₀) W pv s.picks)

section
variable {H : Type} {enc : TypeId × Value → H} {W : World}

theorem bytes_cell {P : Program} {t e : TypeId} {fuel : Nat} {q : Value} {y : DataW H × List MemPlace} (ht : P.underlying t = some (.slice e)) (he : P.underlying e = some (.int .u8)) (hc : P.cellsOf e = 1) (hy : P.bytesOf e = 1)
    (h : DataW.trod enc P W 0 (fun _ => true) true fuel t [q] = some y) (hw : ∀ x ∈ y.1.weights P t, x ≤ reachBytes) :
    ∃ bs : List Nat, Bytes W.heap.size W q bs ∧ bs.length ≤ 140737488351232 := by
  rcases open_ints ht he hc h with ⟨hcs, hx⟩ | ⟨a, len, cap, zs, hcs, _, hl, hm, hz, hx, hcell, hwz⟩
  · obtain rfl : q = .slice none 0 0 := by simpa using hcs
    exact ⟨[], ⟨none, 0, rfl, by simp, fun _ => rfl, by simp, by simp⟩, by simp⟩
  · obtain rfl : q = .slice (some a) len cap := by simpa using hcs
    simp only [if_true] at hz
    have hreach : zs.length ≤ 140737488351232 := by
      have h1 : y.1 = _ := congrArg Prod.fst hx
      have := hw (zs.length) (by
        rw [h1]
        unfold DataW.weights
        rw [ht]
        simp only [hy, Nat.mul_one, lits, List.length_map, List.length_take, List.length_drop]
        refine List.mem_cons.2 (.inl ?_)
        omega)
      unfold reachBytes at this
      omega
    have hlen : (zs.take len).length = len := by simp; omega
    refine ⟨(zs.take len).map Int.toNat, ⟨some a, cap, by rw [List.length_map, hlen], by rw [List.length_map, hlen]; exact hl, (fun h => by cases h), ?_, ?_⟩, by simp; omega⟩
    · intro x hx
      obtain ⟨z, hz', rfl⟩ := List.mem_map.1 hx
      have := u8_wf (hwz z (List.mem_of_mem_take hz'))
      omega
    · intro hpos
      rw [List.length_map, hlen] at hpos ⊢
      obtain ⟨ab, ao, spot⟩ := a
      have hspot : spot = none := by simpa [Addr.add] using World.cell?_spot (hcell 0 (by omega))
      subst hspot
      have h0 := hcell 0 (by omega)
      rw [Addr.add_lit] at h0
      refine ⟨ab, ao, rfl, block_lt_cell h0, fun j hj => ?_⟩
      have hj' := hcell j (by omega)
      rw [Addr.add_lit] at hj'
      rw [hj']
      have hjz : j < zs.length := by omega
      have hb := u8_wf (hwz (zs.getD j 0) (by simp [List.getD, hjz]))
      have e1 : ((zs.take len).map Int.toNat).getD j 0 = (zs.getD j 0).toNat := by
        simp [List.getD, hj, hjz]
      rw [e1]
      congr 2
      omega

theorem ints_cell {P : Program} {t e : TypeId} {fuel : Nat} {q : Value} {y : DataW H × List MemPlace} (ht : P.underlying t = some (.slice e)) (he : P.underlying e = some (.int .i64)) (hc : P.cellsOf e = 1)
    (h : DataW.trod enc P W 0 (fun _ => true) true fuel t [q] = some y) : ∃ zs : List Int, Ints (fun b => b < W.heap.size) W q zs := by
  rcases open_ints ht he hc h with ⟨hcs, hx⟩ | ⟨a, len, cap, zs, hcs, _, hl, hm, hz, hx, hcell, hwz⟩
  · obtain rfl : q = .slice none 0 0 := by simpa using hcs
    exact ⟨[], none, 0, rfl, by simp, by simp⟩
  · obtain rfl : q = .slice (some a) len cap := by simpa using hcs
    simp only [if_true] at hz
    have hlen : (zs.take len).length = len := by simp; omega
    refine ⟨zs.take len, some a, cap, by rw [hlen], by rw [hlen]; exact hl, fun hp => ?_⟩
    rw [hlen] at hp ⊢
    obtain ⟨ab, ao, spot⟩ := a
    have hspot : spot = none := by simpa [Addr.add] using World.cell?_spot (hcell 0 (by omega))
    subst hspot
    have h0 := hcell 0 (by omega)
    rw [Addr.add_lit] at h0
    refine ⟨ab, ao, rfl, block_lt_cell h0, fun j hj => ?_⟩
    have hj' := hcell j (by omega)
    rw [Addr.add_lit] at hj'
    rw [hj']
    simp [List.getD, hj]

set_option maxRecDepth 100000 in
/-- One step. -/
theorem open_step {fuel : Nat} {a : Addr} {cs' : List Value} {y : DataW H × List MemPlace} (hc : W.cells? 0 a 5 = some cs')
    (h : DataW.trod enc Try.prog W 0 (fun _ => true) true fuel 37 cs' = some y) (hw : ∀ x ∈ y.1.weights Try.prog 37, x ≤ reachBytes) :
    ∃ (s : Step) (dv pv : Value), a.spot = none ∧ StepAt W a.block a.off s dv pv ∧ Bytes W.heap.size W dv s.data ∧ Ints (fun b => b < W.heap.size) W pv s.picks ∧ s.fits ∧ a.block < W.heap.size := by
  obtain ⟨xs, n', _, hy, hcl, hxl, hf⟩ := DataW.trod_struct Try.underlying37 h
  obtain ⟨_, hlen, hat⟩ := World.cells?_some hc
  match cs', hlen with
  | [q0, q1, q2, q3, q4], _ =>
    match xs, hxl with
    | [y0, y1, y2, y3, y4], _ =>
      have ki : Try.prog.cellsOf 3 = 1 := by kernel_rfl
      have ks : Try.prog.cellsOf 9 = 1 := by kernel_rfl
      have kb : Try.prog.cellsOf 34 = 1 := by kernel_rfl
      have kn : Try.prog.cellsOf 35 = 1 := by kernel_rfl
      have f0 : DataW.trod enc Try.prog W 0 (fun _ => true) true n' 3 [q0] = some y0 := by have := hf 0 _ rfl; simpa [ki] using this
      have f1 : DataW.trod enc Try.prog W 0 (fun _ => true) true n' 9 [q1] = some y1 := by have := hf 1 _ rfl; simpa [ks] using this
      have f2 : DataW.trod enc Try.prog W 0 (fun _ => true) true n' 3 [q2] = some y2 := by have := hf 2 _ rfl; simpa [ki] using this
      have f3 : DataW.trod enc Try.prog W 0 (fun _ => true) true n' 34 [q3] = some y3 := by have := hf 3 _ rfl; simpa [kb] using this
      have f4 : DataW.trod enc Try.prog W 0 (fun _ => true) true n' 35 [q4] = some y4 := by have := hf 4 _ rfl; simpa [kn] using this
      obtain ⟨z0, e0, -, _⟩ := DataW.trod_int Try.underlying3 f0
      obtain ⟨s1, e1, _, hs1⟩ := DataW.trod_string Try.underlying9 f1
      obtain ⟨z2, e2, -, wf2⟩ := DataW.trod_int Try.underlying3 f2
      obtain rfl : q0 = .int .i64 z0 := by simpa using e0
      obtain rfl : q1 = .string s1 := by simpa using e1
      obtain rfl : q2 = .int .i64 z2 := by simpa using e2
      have hparts : y.1 = DataW.agg [y0.1, y1.1, y2.1, y3.1, y4.1] := by rw [hy]; simp
      have hw3 : ∀ x ∈ y3.1.weights Try.prog 34, x ≤ reachBytes := fun x hx => hw x (by
        rw [hparts, DataW.weights, Try.underlying37]
        simp [DataW.weightsEach, hx])
      obtain ⟨bs, hbs, hbl⟩ := bytes_cell Try.underlying34 Try.underlying5 (by kernel_rfl) (by kernel_rfl) f3 hw3
      obtain ⟨ps, hps⟩ := ints_cell Try.underlying35 Try.underlying3 (by kernel_rfl) f4
      have c0 := hat 0 (by omega)
      have c1 := hat 1 (by omega)
      have c2 := hat 2 (by omega)
      have c3 := hat 3 (by omega)
      have c4 := hat 4 (by omega)
      obtain ⟨ab, ao, sp⟩ := a
      have hsp : sp = none := by
        have h := World.cell?_spot (c0.trans (rfl : _ = some (Value.int .i64 z0)))
        simpa [Addr.add] using h
      subst hsp
      rw [Addr.add_lit] at c0 c1 c2 c3 c4
      have w2 := i64_wf wf2
      simp only [maxLen] at hs1
      exact ⟨⟨z0, s1, z2, bs, ps⟩, q3, q4, rfl, ⟨c0, c1, c2, c3, c4⟩, hbs, hps, ⟨by show -9223372036854775808 ≤ z2; omega, by show z2 ≤ 9223372036854775807; omega, by show s1.size ≤ _; omega, hbl⟩, block_lt_cell c0⟩

theorem open_steps_cell {fuel : Nat} {q : Value} {y : DataW H × List MemPlace} (h : DataW.trod enc Try.prog W 0 (fun _ => true) true fuel 22 [q] = some y) (hw : ∀ x ∈ y.1.weights Try.prog 22, x ≤ reachBytes) :
    ∃ l : List Step, Steps W.heap.size W q l ∧ l.length ≤ maxLen := by
  rcases open_slice Try.underlying22 h with ⟨hcs, _⟩ | ⟨a, len, cap, m, n, D, Pl, hcs, _, hl, hm, hmm, hx, hi⟩
  · obtain rfl : q = .slice none 0 0 := by simpa using hcs
    exact ⟨[], ⟨none, 0, rfl, by simp, by simp⟩, by simp⟩
  · obtain rfl : q = .slice (some a) len cap := by simpa using hcs
    simp only [if_true] at hmm
    subst hmm
    have hC : Try.prog.cellsOf 37 = 5 := by kernel_rfl
    rw [hC] at hi
    have hone : ∀ i, i < len → ∃ (s : Step) (dv pv : Value), a.spot = none ∧ StepAt W a.block (a.off + i * 5) s dv pv ∧ Bytes W.heap.size W dv s.data ∧ Ints (fun b => b < W.heap.size) W pv s.picks ∧ s.fits ∧ a.block < W.heap.size := by
      intro i hil
      have hwi : ∀ x ∈ (D i).weights Try.prog 37, x ≤ reachBytes := fun x hx' => hw x (by
        rw [show y.1 = _ from congrArg Prod.fst hx, DataW.weights, Try.underlying22]
        exact List.mem_cons_of_mem _ (List.mem_append_left _ (weightsAll_mem (List.mem_map.2 ⟨i, List.mem_range.2 hil, rfl⟩) hx')))
      have hw0 : ∀ x ∈ (D 0).weights Try.prog 37, x ≤ reachBytes := fun x hx' => hw x (by
        rw [show y.1 = _ from congrArg Prod.fst hx, DataW.weights, Try.underlying22]
        exact List.mem_cons_of_mem _ (List.mem_append_left _ (weightsAll_mem (List.mem_map.2 ⟨0, List.mem_range.2 (by omega), rfl⟩) hx')))
      obtain ⟨cs', hc, ht⟩ := hi i (by omega)
      obtain ⟨s, dv, pv, _, h2, h3⟩ := open_step hc ht hwi
      obtain ⟨cs0, hc0, ht0⟩ := hi 0 (by omega)
      obtain ⟨_, _, _, h0, _⟩ := open_step hc0 ht0 hw0
      obtain ⟨ab, ao, sp⟩ := a
      have hsp : sp = none := by simpa [Addr.add] using h0
      subst hsp
      rw [Addr.add_lit] at h2 h3
      exact ⟨s, dv, pv, rfl, h2, h3⟩
    obtain ⟨X, hX⟩ := Classical.axiomOfChoice (r := fun (i : Nat) (s : Step) => i < len → ∃ dv pv : Value, a.spot = none ∧ StepAt W a.block (a.off + i * 5) s dv pv ∧ Bytes W.heap.size W dv s.data ∧ Ints (fun b => b < W.heap.size) W pv s.picks ∧ s.fits ∧ a.block < W.heap.size) (fun i => by
      by_cases h : i < len
      · obtain ⟨x, dv, pv, hx⟩ := hone i h
        exact ⟨x, fun _ => ⟨dv, pv, hx⟩⟩
      · exact ⟨⟨0, ⟨#[]⟩, 0, [], []⟩, fun h' => absurd h' h⟩)
    have hget : ∀ (j : Nat) (x : Step), ((List.range len).map X)[j]? = some x → j < len ∧ X j = x := by
      intro j x hx
      rw [List.getElem?_map] at hx
      by_cases hj : j < len
      · rw [List.getElem?_range hj] at hx
        exact ⟨hj, by simpa using hx⟩
      · rw [List.getElem?_eq_none (by simp; omega)] at hx
        simp at hx
    refine ⟨(List.range len).map X, ⟨some a, m, by simp, by simpa using hl, fun hp => ?_⟩, by simp; omega⟩
    have hp' : 0 < len := by simpa using hp
    obtain ⟨_, _, hs, _, _, _, _, hb⟩ := hX 0 hp'
    obtain ⟨ab, ao, spot⟩ := a
    obtain rfl : spot = none := hs
    refine ⟨ab, ao, rfl, hb, fun j x hx => ?_⟩
    obtain ⟨hj, rfl⟩ := hget j x hx
    obtain ⟨dv, pv, _, h1, h2, h3, h4, _⟩ := hX j hj
    exact ⟨h4, dv, pv, h1, h2, h3⟩

set_option maxRecDepth 100000 in
/-- A script that came in. -/
theorem open_steps {base : Nat} {v : Value} {d : DataW H} {ps : List MemPlace} (hval : Value.okWide Try.prog W .any base 22 v) (h : DataW.Trod enc Try.prog W 0 (fun _ => true) true 22 v d ps) (hw : ((d.weights Try.prog 22).all (· ≤ reachBytes)) = true) :
    ∃ l : List Step, Steps W.heap.size W v l ∧ l.length ≤ maxLen := by
  obtain ⟨a1, len0, cap0, rfl⟩ := okWide_slice Try.underlying22 hval
  obtain ⟨fuel, hf⟩ := h
  exact open_steps_cell (by simpa [Value.cells] using hf) fun x hx => by simpa using List.all_eq_true.1 hw x hx

set_option maxRecDepth 100000 in
/-- A script and a name that came in. -/
theorem open_two {base : Nat} {v : Value} {d : DataW H} {ps : List MemPlace} (hval : Value.okWide Try.prog W .any base 41 v) (h : DataW.Trod enc Try.prog W 0 (fun _ => true) true 41 v d ps) (hw : ((d.weights Try.prog 41).all (· ≤ reachBytes)) = true) :
    ∃ (u : Value) (s : ByteArray) (l : List Step), v = .agg #[u, .string s] ∧ s.size ≤ maxLen ∧ Steps W.heap.size W u l ∧ l.length ≤ maxLen := by
  obtain ⟨cs, rfl, hcs⟩ := okWide_struct Try.underlying41 hval
  obtain ⟨fuel, hf⟩ := h
  obtain ⟨xs, n', _, hy, hcl, hxl, hg⟩ := DataW.trod_struct Try.underlying41 hf
  have hsz : cs.size = 2 := hcs.trans (by kernel_rfl)
  obtain ⟨c0, c1, rfl⟩ : ∃ c0 c1, cs = #[c0, c1] := by
    obtain ⟨l⟩ := cs
    match l, hsz with
    | [c0, c1], _ => exact ⟨c0, c1, rfl⟩
  match xs, hxl with
  | [y0, y1], _ =>
    have ks : Try.prog.cellsOf 9 = 1 := by kernel_rfl
    have kb : Try.prog.cellsOf 22 = 1 := by kernel_rfl
    have f0 : DataW.trod enc Try.prog W 0 (fun _ => true) true n' 22 [c0] = some y0 := by have := hg 0 _ rfl; simpa [kb, Value.cells] using this
    have f1 : DataW.trod enc Try.prog W 0 (fun _ => true) true n' 9 [c1] = some y1 := by have := hg 1 _ rfl; simpa [ks, Value.cells] using this
    obtain ⟨s1, e1, _, hs1⟩ := DataW.trod_string Try.underlying9 f1
    obtain rfl : c1 = .string s1 := by simpa using e1
    have hparts : d = DataW.agg [y0.1, y1.1] := by
      have := congrArg Prod.fst hy
      simpa using this
    have hw0 : ∀ x ∈ y0.1.weights Try.prog 22, x ≤ reachBytes := fun x hx => by
      have := List.all_eq_true.1 hw x (by
        rw [hparts, DataW.weights, Try.underlying41]
        simp [DataW.weightsEach, hx])
      simpa using this
    obtain ⟨l, hl1, hl2⟩ := open_steps_cell f0 hw0
    exact ⟨c0, s1, l, rfl, hs1, hl1, hl2⟩
end

end Go.Proofs.Ytnjjjalenhbicaa.Disk
