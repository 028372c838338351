/-
  Put together out of texts of one chain: what they hold stands ahead of each.
-/
import Derived.Test.YtmegiilkcidanaaMailOpen
import Derived.Test.YtmegiilkcidanaaGDiskCopies21
/-
  A slice of numbers that came in.
-/
namespace Go.Proofs.Ytmegiilkcidanaa.Disk
open Go Go.ChangeShapes Go.WideShapes Go.ChangeAt Go.RowKit Go.Deep Go.Proofs.Ytmegiilkcidanaa.Law

theorem weightsAll_mem {H : Type} {P : Program} {e : TypeId} {d : DataW H} {x : Nat} : ∀ {l : List (DataW H)}, d ∈ l → x ∈ d.weights P e → x ∈ DataW.weightsAll P e l
  | [], h, _ => by cases h
  | a :: l, h, hx => by
    unfold DataW.weightsAll
    rcases List.mem_cons.1 h with rfl | h
    · exact List.mem_append_left _ hx
    · exact List.mem_append_right _ (weightsAll_mem h hx)
theorem open_byte_rows_reach {H : Type} {enc : TypeId × Value → H} {P : Program} {t s e : TypeId} {base : Nat} {W : World} {v : Value} {d : DataW H} {ps : List MemPlace} (ht : P.underlying t = some (.slice s)) (hs : P.underlying s = some (.slice e)) (he : P.underlying e = some (.int .u8))
    (cs1 : P.cellsOf s = 1) (ce : P.cellsOf e = 1) (hval : Value.okWide P W .any base t v) (hy : P.bytesOf e = 1) (h : DataW.Trod enc P W 0 (fun _ => true) true t v d ps) (hw : ((d.weights P t).all (· ≤ reachBytes)) = true) :
    ∃ bss : List (List Nat), ByteRows W.heap.size W v bss ∧ bss.length ≤ maxLen ∧ ∀ j, j < bss.length → (bss.getD j []).length ≤ 140737488351232 := by
  obtain ⟨a1, len0, cap0, rfl⟩ := okWide_slice ht hval
  obtain ⟨fuel, hf⟩ := h
  rcases open_int_rows ht hs he cs1 ce hf with ⟨hcs, hx⟩ | ⟨a, len, cap, A, L, C, Z, hcs, _, hl, hm, hx, hrows⟩
  · simp [Value.cells] at hcs
    obtain ⟨rfl, rfl, rfl⟩ := hcs
    exact ⟨[], ⟨none, 0, rfl, by simp, by simp⟩, by simp [maxLen], by simp⟩
  · simp [Value.cells] at hcs
    obtain ⟨rfl, rfl, rfl⟩ := hcs
    have hlen : ((List.range len0).map fun r => ((Z r).take (L r)).map Int.toNat).length = len0 := by simp
    have hget : ∀ j, j < len0 → ((List.range len0).map fun r => ((Z r).take (L r)).map Int.toNat).getD j [] = ((Z j).take (L j)).map Int.toNat := by
      intro j hj; simp [List.getD, hj]
    refine ⟨(List.range len0).map fun r => ((Z r).take (L r)).map Int.toNat, ⟨some a, cap0, by rw [hlen], by rw [hlen]; exact hl, fun hpos => ?_⟩, by rw [hlen]; omega, fun j hj => ?_⟩
    · rw [hlen] at hpos ⊢
      obtain ⟨ab, ao, spot⟩ := a
      have hspot : spot = none := by simpa [Addr.add] using World.cell?_spot (hrows 0 (by omega)).1
      subst hspot
      have h0 := (hrows 0 (by omega)).1
      rw [Addr.add_lit] at h0
      refine ⟨ab, ao, rfl, block_lt_cell h0, fun j hj => ?_⟩
      obtain ⟨hc, hLC, _, hzl, hwz, hnil, hcell⟩ := hrows j (by omega)
      rw [Addr.add_lit] at hc
      rw [hget j hj]
      have hll : (((Z j).take (L j)).map Int.toNat).length = L j := by simp; omega
      refine ⟨_, hc, A j, C j, by rw [hll], by rw [hll]; exact hLC, hnil, ?_, fun hp => ?_⟩
      · intro x hx
        obtain ⟨z, hz', rfl⟩ := List.mem_map.1 hx
        have := u8_wf (hwz z (List.mem_of_mem_take hz'))
        omega
      · rw [hll] at hp ⊢
        cases hA : A j with
        | none => have := hnil hA; omega
        | some a' =>
          obtain ⟨_, hcs⟩ := hcell a' hA
          obtain ⟨bb, bo, sp⟩ := a'
          have hsp : sp = none := by simpa [Addr.add] using World.cell?_spot (hcs 0 (by omega))
          subst hsp
          have h00 := hcs 0 (by omega)
          rw [Addr.add_lit] at h00
          refine ⟨bb, bo, rfl, block_lt_cell h00, fun i hi => ?_⟩
          have hi' := hcs i (by omega)
          rw [Addr.add_lit] at hi'
          rw [hi']
          have hiz : i < (Z j).length := by omega
          have hb := u8_wf (hwz ((Z j).getD i 0) (by simp [List.getD, hiz]))
          have e1 : (((Z j).take (L j)).map Int.toNat).getD i 0 = ((Z j).getD i 0).toNat := by
            simp [List.getD, hi, hiz]
          rw [e1]
          congr 2
          omega
    · rw [hlen] at hj
      rw [hget j hj]
      obtain ⟨_, hLC, hCm, hzl, _, hnil, _⟩ := hrows j (by omega)
      have hreach : C j ≤ 140737488351232 := by
        cases hA : A j with
        | none => have := hnil hA; omega
        | some a' =>
          simp only [Prod.mk.injEq] at hx
          have hd : d = _ := hx.1
          rw [hd] at hw
          unfold DataW.weights at hw
          rw [ht] at hw
          simp only [List.all_cons, Bool.and_eq_true, List.all_append] at hw
          have hm2 := List.all_eq_true.1 hw.2.1 (C j) (weightsAll_mem (d := intRow .u8 (A j) (L j) (Z j)) (List.mem_map.2 ⟨j, List.mem_range.2 hj, rfl⟩) ?_)
          · simp only [decide_eq_true_eq] at hm2
            unfold reachBytes at hm2
            omega
          · rw [hA]
            show C j ∈ DataW.weights P s (.slice (lits .u8 ((Z j).take (L j))) (lits .u8 ((Z j).drop (L j))))
            unfold DataW.weights
            rw [hs]
            refine List.mem_cons.2 (.inl ?_)
            simp only [lits, List.length_map, List.length_take, List.length_drop, hy]
            omega
      simp
      omega

theorem open_ints_arg {H : Type} {enc : TypeId × Value → H} {P : Program} {t e : TypeId} {base : Nat} {W : World} {v : Value} {d : DataW H} {ps : List MemPlace} (ht : P.underlying t = some (.slice e)) (he : P.underlying e = some (.int .i64)) (hc : P.cellsOf e = 1)
    (hval : Value.okWide P W .any base t v) (h : DataW.Trod enc P W 0 (fun _ => true) true t v d ps) : ∃ zs : List Int, Ints (fun b => b < W.heap.size) W v zs ∧ zs.length ≤ maxLen := by
  obtain ⟨a1, len, cap, rfl⟩ := okWide_slice ht hval
  obtain ⟨fuel, hf⟩ := h
  rcases open_ints ht he hc hf with ⟨hcs, hx⟩ | ⟨a, len', cap', zs, hcs, _, hl, hm, hz, hx, hcell, hwz⟩
  · simp [Value.cells] at hcs
    obtain ⟨rfl, rfl, rfl⟩ := hcs
    exact ⟨[], ⟨none, 0, rfl, by simp, by simp⟩, by simp⟩
  · simp [Value.cells] at hcs
    obtain ⟨rfl, rfl, rfl⟩ := hcs
    simp only [if_true] at hz
    have hlen : (zs.take len).length = len := by simp; omega
    refine ⟨zs.take len, ⟨some a, cap, by rw [hlen], by rw [hlen]; exact hl, fun hp => ?_⟩, by rw [hlen]; omega⟩
    rw [hlen] at hp ⊢
    obtain ⟨ab, ao, spot⟩ := a
    have hspot : spot = none := by simpa [Addr.add] using World.cell?_spot (hcell 0 (by omega))
    subst hspot
    have h0 := hcell 0 (by omega)
    rw [Addr.add_lit] at h0
    refine ⟨ab, ao, rfl, block_lt_cell h0, fun j hj => ?_⟩
    have hj' := hcell j (by omega)
    rw [Addr.add_lit] at hj'
    rw [hj']
    simp [List.getD, hj]

theorem open_ints_reach {H : Type} {enc : TypeId × Value → H} {P : Program} {t e : TypeId} {base : Nat} {W : World} {v : Value} {d : DataW H} {ps : List MemPlace} (ht : P.underlying t = some (.slice e)) (he : P.underlying e = some (.int .i64)) (hc : P.cellsOf e = 1) (hy : P.bytesOf e = 8)
    (hval : Value.okWide P W .any base t v) (h : DataW.Trod enc P W 0 (fun _ => true) true t v d ps) (hw : ((d.weights P t).all (· ≤ reachBytes)) = true) : ∃ zs : List Int, Ints (fun b => b < W.heap.size) W v zs ∧ zs.length * 8 ≤ 140737488351232 ∧ ∀ c, v = .slice none zs.length c → c = 0 := by
  obtain ⟨a1, len, cap, rfl⟩ := okWide_slice ht hval
  obtain ⟨fuel, hf⟩ := h
  rcases open_ints ht he hc hf with ⟨hcs, hx⟩ | ⟨a, len', cap', zs, hcs, _, hl, hm, hz, hx, hcell, hwz⟩
  · simp [Value.cells] at hcs
    obtain ⟨rfl, rfl, rfl⟩ := hcs
    exact ⟨[], ⟨none, 0, rfl, by simp, by simp⟩, by simp, fun c hc => by simpa using hc.symm⟩
  · simp [Value.cells] at hcs
    obtain ⟨rfl, rfl, rfl⟩ := hcs
    simp only [Prod.mk.injEq] at hx
    obtain ⟨rfl, rfl⟩ := hx
    simp only [if_true] at hz
    have hreach : zs.length * 8 ≤ 140737488351232 := by
      unfold DataW.weights at hw
      rw [ht] at hw
      simp only [List.all_cons, Bool.and_eq_true, decide_eq_true_eq, hy, lits, List.length_map, List.length_take, List.length_drop] at hw
      have := hw.1
      unfold reachBytes at this
      omega
    have hlen : (zs.take len).length = len := by simp; omega
    refine ⟨zs.take len, ⟨some a, cap, by rw [hlen], by rw [hlen]; exact hl, fun hp => ?_⟩, by rw [hlen]; omega, fun c hc => by simp at hc⟩
    rw [hlen] at hp ⊢
    obtain ⟨ab, ao, spot⟩ := a
    have hspot : spot = none := by simpa [Addr.add] using World.cell?_spot (hcell 0 (by omega))
    subst hspot
    have h0 := hcell 0 (by omega)
    rw [Addr.add_lit] at h0
    refine ⟨ab, ao, rfl, block_lt_cell h0, fun j hj => ?_⟩
    have hj' := hcell j (by omega)
    rw [Addr.add_lit] at hj'
    rw [hj']
    simp [List.getD, hj]

end Go.Proofs.Ytmegiilkcidanaa.Disk

/-
  A script of steps of a disk that came in.
-/
namespace Go.Proofs.Ytmegiilkcidanaa.Disk
open Go Go.ChangeShapes Go.WideShapes Go.ChangeAt Go.RowKit Go.Deep Go.Proofs.Ytmegiilkcidanaa.Law

structure Step where
  kind : Int
  name : ByteArray
  at' : Int
  data : List Nat
  picks : List Int

/-- The five cells of a step. -/
def StepAt (W : World) (b o : Nat) (s : Step) (dv pv : Value) : Prop :=
  W.cell? ⟨b, o, none⟩ = some (.int .i64 s.kind) ∧ W.cell? ⟨b, o + 1, none⟩ = some (.string s.name) ∧ W.cell? ⟨b, o + 2, none⟩ = some (.int .i64 s.at') ∧ W.cell? ⟨b, o + 3, none⟩ = some dv ∧ W.cell? ⟨b, o + 4, none⟩ = some pv
/-- What its parts are at most. -/
structure Step.fits (s : Step) : Prop where
  low : -9223372036854775808 ≤ s.at'
  high : s.at' ≤ 9223372036854775807
  name : s.name.size ≤ 9223372036854775807
  data : s.data.length ≤ 140737488351232
/-- The slice value reads as these steps. -/
def Steps (n₀ : Nat) (W : World) (v : Value) (l : List Step) : Prop :=
  ∃ A cap, v = .slice A l.length cap ∧ l.length ≤ cap ∧ (0 < l.length → ∃ b off, A = some ⟨b, off, none⟩ ∧ b < n₀ ∧ ∀ (j : Nat) (s : Step), l[j]? = some s →
    s.fits ∧ ∃ dv pv, StepAt W b (off + j * 5) s dv pv ∧ Bytes n₀ W dv s.data ∧ Ints (fun b => b < n₀) W pv s.picks)

section
variable {H : Type} {enc : TypeId × Value → H} {W : World}

theorem bytes_cell {P : Program} {t e : TypeId} {fuel : Nat} {q : Value} {y : DataW H × List MemPlace} (ht : P.underlying t = some (.slice e)) (he : P.underlying e = some (.int .u8)) (hc : P.cellsOf e = 1) (hy : P.bytesOf e = 1)
    (h : DataW.trod enc P W 0 (fun _ => true) true fuel t [q] = some y) (hw : ∀ x ∈ y.1.weights P t, x ≤ reachBytes) :
    ∃ bs : List Nat, Bytes W.heap.size W q bs ∧ bs.length ≤ 140737488351232 := by
  rcases open_ints ht he hc h with ⟨hcs, hx⟩ | ⟨a, len, cap, zs, hcs, _, hl, hm, hz, hx, hcell, hwz⟩
  · obtain rfl : q = .slice none 0 0 := by simpa using hcs
    exact ⟨[], ⟨none, 0, rfl, by simp, fun _ => rfl, by simp, by simp⟩, by simp⟩
  · obtain rfl : q = .slice (some a) len cap := by simpa using hcs
    simp only [if_true] at hz
    have hreach : zs.length ≤ 140737488351232 := by
      have h1 : y.1 = _ := congrArg Prod.fst hx
      have := hw (zs.length) (by
        rw [h1]
        unfold DataW.weights
        rw [ht]
        simp only [hy, Nat.mul_one, lits, List.length_map, List.length_take, List.length_drop]
        refine List.mem_cons.2 (.inl ?_)
        omega)
      unfold reachBytes at this
      omega
    have hlen : (zs.take len).length = len := by simp; omega
    refine ⟨(zs.take len).map Int.toNat, ⟨some a, cap, by rw [List.length_map, hlen], by rw [List.length_map, hlen]; exact hl, (fun h => by cases h), ?_, ?_⟩, by simp; omega⟩
    · intro x hx
      obtain ⟨z, hz', rfl⟩ := List.mem_map.1 hx
      have := u8_wf (hwz z (List.mem_of_mem_take hz'))
      omega
    · intro hpos
      rw [List.length_map, hlen] at hpos ⊢
      obtain ⟨ab, ao, spot⟩ := a
      have hspot : spot = none := by simpa [Addr.add] using World.cell?_spot (hcell 0 (by omega))
      subst hspot
      have h0 := hcell 0 (by omega)
      rw [Addr.add_lit] at h0
      refine ⟨ab, ao, rfl, block_lt_cell h0, fun j hj => ?_⟩
      have hj' := hcell j (by omega)
      rw [Addr.add_lit] at hj'
      rw [hj']
      have hjz : j < zs.length := by omega
      have hb := u8_wf (hwz (zs.getD j 0) (by simp [List.getD, hjz]))
      have e1 : ((zs.take len).map Int.toNat).getD j 0 = (zs.getD j 0).toNat := by
        simp [List.getD, hj, hjz]
      rw [e1]
      congr 2
      omega

theorem ints_cell {P : Program} {t e : TypeId} {fuel : Nat} {q : Value} {y : DataW H × List MemPlace} (ht : P.underlying t = some (.slice e)) (he : P.underlying e = some (.int .i64)) (hc : P.cellsOf e = 1)
    (h : DataW.trod enc P W 0 (fun _ => true) true fuel t [q] = some y) : ∃ zs : List Int, Ints (fun b => b < W.heap.size) W q zs := by
  rcases open_ints ht he hc h with ⟨hcs, hx⟩ | ⟨a, len, cap, zs, hcs, _, hl, hm, hz, hx, hcell, hwz⟩
  · obtain rfl : q = .slice none 0 0 := by simpa using hcs
    exact ⟨[], none, 0, rfl, by simp, by simp⟩
  · obtain rfl : q = .slice (some a) len cap := by simpa using hcs
    simp only [if_true] at hz
    have hlen : (zs.take len).length = len := by simp; omega
    refine ⟨zs.take len, some a, cap, by rw [hlen], by rw [hlen]; exact hl, fun hp => ?_⟩
    rw [hlen] at hp ⊢
    obtain ⟨ab, ao, spot⟩ := a
    have hspot : spot = none := by simpa [Addr.add] using World.cell?_spot (hcell 0 (by omega))
    subst hspot
    have h0 := hcell 0 (by omega)
    rw [Addr.add_lit] at h0
    refine ⟨ab, ao, rfl, block_lt_cell h0, fun j hj => ?_⟩
    have hj' := hcell j (by omega)
    rw [Addr.add_lit] at hj'
    rw [hj']
    simp [List.getD, hj]

set_option maxRecDepth 100000 in
/-- One step. -/
theorem open_step {fuel : Nat} {a : Addr} {cs' : List Value} {y : DataW H × List MemPlace} (hc : W.cells? 0 a 5 = some cs')
    (h : DataW.trod enc Try.prog W 0 (fun _ => true) true fuel 37 cs' = some y) (hw : ∀ x ∈ y.1.weights Try.prog 37, x ≤ reachBytes) :
    ∃ (s : Step) (dv pv : Value), a.spot = none ∧ StepAt W a.block a.off s dv pv ∧ Bytes W.heap.size W dv s.data ∧ Ints (fun b => b < W.heap.size) W pv s.picks ∧ s.fits ∧ a.block < W.heap.size := by
  obtain ⟨xs, n', _, hy, hcl, hxl, hf⟩ := DataW.trod_struct Try.underlying37 h
  obtain ⟨_, hlen, hat⟩ := World.cells?_some hc
  match cs', hlen with
  | [q0, q1, q2, q3, q4], _ =>
    match xs, hxl with
    | [y0, y1, y2, y3, y4], _ =>
      have ki : Try.prog.cellsOf 3 = 1 := by kernel_rfl
      have ks : Try.prog.cellsOf 9 = 1 := by kernel_rfl
      have kb : Try.prog.cellsOf 34 = 1 := by kernel_rfl
      have kn : Try.prog.cellsOf 35 = 1 := by kernel_rfl
      have f0 : DataW.trod enc Try.prog W 0 (fun _ => true) true n' 3 [q0] = some y0 := by have := hf 0 _ rfl; simpa [ki] using this
      have f1 : DataW.trod enc Try.prog W 0 (fun _ => true) true n' 9 [q1] = some y1 := by have := hf 1 _ rfl; simpa [ks] using this
      have f2 : DataW.trod enc Try.prog W 0 (fun _ => true) true n' 3 [q2] = some y2 := by have := hf 2 _ rfl; simpa [ki] using this
      have f3 : DataW.trod enc Try.prog W 0 (fun _ => true) true n' 34 [q3] = some y3 := by have := hf 3 _ rfl; simpa [kb] using this
      have f4 : DataW.trod enc Try.prog W 0 (fun _ => true) true n' 35 [q4] = some y4 := by have := hf 4 _ rfl; simpa [kn] using this
      obtain ⟨z0, e0, -, _⟩ := DataW.trod_int Try.underlying3 f0
      obtain ⟨s1, e1, _, hs1⟩ := DataW.trod_string Try.underlying9 f1
      obtain ⟨z2, e2, -, wf2⟩ := DataW.trod_int Try.underlying3 f2
      obtain rfl : q0 = .int .i64 z0 := by simpa using e0
      obtain rfl : q1 = .string s1 := by simpa using e1
      obtain rfl : q2 = .int .i64 z2 := by simpa using e2
      have hparts : y.1 = DataW.agg [y0.1, y1.1, y2.1, y3.1, y4.1] := by rw [hy]; simp
      have hw3 : ∀ x ∈ y3.1.weights Try.prog 34, x ≤ reachBytes := fun x hx => hw x (by
        rw [hparts, DataW.weights, Try.underlying37]
        simp [DataW.weightsEach, hx])
      obtain ⟨bs, hbs, hbl⟩ := bytes_cell Try.underlying34 Try.underlying5 (by kernel_rfl) (by kernel_rfl) f3 hw3
      obtain ⟨ps, hps⟩ := ints_cell Try.underlying35 Try.underlying3 (by kernel_rfl) f4
      have c0 := hat 0 (by omega)
      have c1 := hat 1 (by omega)
      have c2 := hat 2 (by omega)
      have c3 := hat 3 (by omega)
      have c4 := hat 4 (by omega)
      obtain ⟨ab, ao, sp⟩ := a
      have hsp : sp = none := by
        have h := World.cell?_spot (c0.trans (rfl : _ = some (Value.int .i64 z0)))
        simpa [Addr.add] using h
      subst hsp
      rw [Addr.add_lit] at c0 c1 c2 c3 c4
      have w2 := i64_wf wf2
      simp only [maxLen] at hs1
      exact ⟨⟨z0, s1, z2, bs, ps⟩, q3, q4, rfl, ⟨c0, c1, c2, c3, c4⟩, hbs, hps, ⟨by show -9223372036854775808 ≤ z2; omega, by show z2 ≤ 9223372036854775807; omega, by show s1.size ≤ _; omega, hbl⟩, block_lt_cell c0⟩

theorem open_steps_cell {fuel : Nat} {q : Value} {y : DataW H × List MemPlace} (h : DataW.trod enc Try.prog W 0 (fun _ => true) true fuel 22 [q] = some y) (hw : ∀ x ∈ y.1.weights Try.prog 22, x ≤ reachBytes) :
    ∃ l : List Step, Steps W.heap.size W q l ∧ l.length ≤ maxLen := by
  rcases open_slice Try.underlying22 h with ⟨hcs, _⟩ | ⟨a, len, cap, m, n, D, Pl, hcs, _, hl, hm, hmm, hx, hi⟩
  · obtain rfl : q = .slice none 0 0 := by simpa using hcs
    exact ⟨[], ⟨none, 0, rfl, by simp, by simp⟩, by simp⟩
  · obtain rfl : q = .slice (some a) len cap := by simpa using hcs
    simp only [if_true] at hmm
    subst hmm
    have hC : Try.prog.cellsOf 37 = 5 := by kernel_rfl
    rw [hC] at hi
    have hone : ∀ i, i < len → ∃ (s : Step) (dv pv : Value), a.spot = none ∧ StepAt W a.block (a.off + i * 5) s dv pv ∧ Bytes W.heap.size W dv s.data ∧ Ints (fun b => b < W.heap.size) W pv s.picks ∧ s.fits ∧ a.block < W.heap.size := by
      intro i hil
      have hwi : ∀ x ∈ (D i).weights Try.prog 37, x ≤ reachBytes := fun x hx' => hw x (by
        rw [show y.1 = _ from congrArg Prod.fst hx, DataW.weights, Try.underlying22]
        exact List.mem_cons_of_mem _ (List.mem_append_left _ (weightsAll_mem (List.mem_map.2 ⟨i, List.mem_range.2 hil, rfl⟩) hx')))
      have hw0 : ∀ x ∈ (D 0).weights Try.prog 37, x ≤ reachBytes := fun x hx' => hw x (by
        rw [show y.1 = _ from congrArg Prod.fst hx, DataW.weights, Try.underlying22]
        exact List.mem_cons_of_mem _ (List.mem_append_left _ (weightsAll_mem (List.mem_map.2 ⟨0, List.mem_range.2 (by omega), rfl⟩) hx')))
      obtain ⟨cs', hc, ht⟩ := hi i (by omega)
      obtain ⟨s, dv, pv, _, h2, h3⟩ := open_step hc ht hwi
      obtain ⟨cs0, hc0, ht0⟩ := hi 0 (by omega)
      obtain ⟨_, _, _, h0, _⟩ := open_step hc0 ht0 hw0
      obtain ⟨ab, ao, sp⟩ := a
      have hsp : sp = none := by simpa [Addr.add] using h0
      subst hsp
      rw [Addr.add_lit] at h2 h3
      exact ⟨s, dv, pv, rfl, h2, h3⟩
    obtain ⟨X, hX⟩ := Classical.axiomOfChoice (r := fun (i : Nat) (s : Step) => i < len → ∃ dv pv : Value, a.spot = none ∧ StepAt W a.block (a.off + i * 5) s dv pv ∧ Bytes W.heap.size W dv s.data ∧ Ints (fun b => b < W.heap.size) W pv s.picks ∧ s.fits ∧ a.block < W.heap.size) (fun i => by
      by_cases h : i < len
      · obtain ⟨x, dv, pv, hx⟩ := hone i h
        exact ⟨x, fun _ => ⟨dv, pv, hx⟩⟩
      · exact ⟨⟨0, ⟨#[]⟩, 0, [], []⟩, fun h' => absurd h' h⟩)
    have hget : ∀ (j : Nat) (x : Step), ((List.range len).map X)[j]? = some x → j < len ∧ X j = x := by
      intro j x hx
      rw [List.getElem?_map] at hx
      by_cases hj : j < len
      · rw [List.getElem?_range hj] at hx
        exact ⟨hj, by simpa using hx⟩
      · rw [List.getElem?_eq_none (by simp; omega)] at hx
        simp at hx
    refine ⟨(List.range len).map X, ⟨some a, m, by simp, by simpa using hl, fun hp => ?_⟩, by simp; omega⟩
    have hp' : 0 < len := by simpa using hp
    obtain ⟨_, _, hs, _, _, _, _, hb⟩ := hX 0 hp'
    obtain ⟨ab, ao, spot⟩ := a
    obtain rfl : spot = none := hs
    refine ⟨ab, ao, rfl, hb, fun j x hx => ?_⟩
    obtain ⟨hj, rfl⟩ := hget j x hx
    obtain ⟨dv, pv, _, h1, h2, h3, h4, _⟩ := hX j hj
    exact ⟨h4, dv, pv, h1, h2, h3⟩

set_option maxRecDepth 100000 in
/-- A script that came in. -/
theorem open_steps {base : Nat} {v : Value} {d : DataW H} {ps : List MemPlace} (hval : Value.okWide Try.prog W .any base 22 v) (h : DataW.Trod enc Try.prog W 0 (fun _ => true) true 22 v d ps) (hw : ((d.weights Try.prog 22).all (· ≤ reachBytes)) = true) :
    ∃ l : List Step, Steps W.heap.size W v l ∧ l.length ≤ maxLen := by
  obtain ⟨a1, len0, cap0, rfl⟩ := okWide_slice Try.underlying22 hval
  obtain ⟨fuel, hf⟩ := h
  exact open_steps_cell (by simpa [Value.cells] using hf) fun x hx => by simpa using List.all_eq_true.1 hw x hx

set_option maxRecDepth 100000 in
/-- A script and a name that came in. -/
theorem open_two {base : Nat} {v : Value} {d : DataW H} {ps : List MemPlace} (hval : Value.okWide Try.prog W .any base 41 v) (h : DataW.Trod enc Try.prog W 0 (fun _ => true) true 41 v d ps) (hw : ((d.weights Try.prog 41).all (· ≤ reachBytes)) = true) :
    ∃ (u : Value) (s : ByteArray) (l : List Step), v = .agg #[u, .string s] ∧ s.size ≤ maxLen ∧ Steps W.heap.size W u l ∧ l.length ≤ maxLen := by
  obtain ⟨cs, rfl, hcs⟩ := okWide_struct Try.underlying41 hval
  obtain ⟨fuel, hf⟩ := h
  obtain ⟨xs, n', _, hy, hcl, hxl, hg⟩ := DataW.trod_struct Try.underlying41 hf
  have hsz : cs.size = 2 := hcs.trans (by kernel_rfl)
  obtain ⟨c0, c1, rfl⟩ : ∃ c0 c1, cs = #[c0, c1] := by
    obtain ⟨l⟩ := cs
    match l, hsz with
    | [c0, c1], _ => exact ⟨c0, c1, rfl⟩
  match xs, hxl with
  | [y0, y1], _ =>
    have ks : Try.prog.cellsOf 9 = 1 := by kernel_rfl
    have kb : Try.prog.cellsOf 22 = 1 := by kernel_rfl
    have f0 : DataW.trod enc Try.prog W 0 (fun _ => true) true n' 22 [c0] = some y0 := by have := hg 0 _ rfl; simpa [kb, Value.cells] using this
    have f1 : DataW.trod enc Try.prog W 0 (fun _ => true) true n' 9 [c1] = some y1 := by have := hg 1 _ rfl; simpa [ks, Value.cells] using this
    obtain ⟨s1, e1, _, hs1⟩ := DataW.trod_string Try.underlying9 f1
    obtain rfl : c1 = .string s1 := by simpa using e1
    have hparts : d = DataW.agg [y0.1, y1.1] := by
      have := congrArg Prod.fst hy
      simpa using this
    have hw0 : ∀ x ∈ y0.1.weights Try.prog 22, x ≤ reachBytes := fun x hx => by
      have := List.all_eq_true.1 hw x (by
        rw [hparts, DataW.weights, Try.underlying41]
        simp [DataW.weightsEach, hx])
      simpa using this
    obtain ⟨l, hl1, hl2⟩ := open_steps_cell f0 hw0
    exact ⟨c0, s1, l, rfl, hs1, hl1, hl2⟩
end

end Go.Proofs.Ytmegiilkcidanaa.Disk

/-
  A disk of a law's own: what each call makes of it, where nothing of what lay before the law has turned.
-/
namespace Go.Proofs.Ytmegiilkcidanaa.Disk
open Go Go.RowKit Go.Lib Go.Proofs.Ytmegiilkcidanaa.Law

theorem bytesS_str {bs : List Nat} (h : ∀ x ∈ bs, x < 256) : bytesS (str bs) = bs := by
  unfold bytesS str
  rw [List.map_map]
  conv => rhs; rw [← List.map_id bs]
  apply List.map_congr_left
  intro x hx
  have := h x hx
  simp [Nat.mod_eq_of_lt this]
theorem str_size (bs : List Nat) : (str bs).size = bs.length := by
  unfold str
  show (bs.map UInt8.ofNat).toArray.size = _
  simp

/-- The disk D, none of whose blocks lay before w. -/
def Dk (w : World) (db : Nat) (D : DS) (W : World) : Prop := ∃ O, DiskAt W O db D ∧ (∀ k, k < w.heap.size → O k = none) ∧ Below w.heap.size w W ∧ WF D

theorem Dk.below {w W W' : World} {db : Nat} {D : DS} (h : Dk w db D W) (hB : Below W.heap.size W W') : Dk w db D W' := by
  obtain ⟨O, h1, h2, h3, h4⟩ := h
  exact ⟨O, h1.below hB, h2, h3.trans (hB.mono h3.size), h4⟩
theorem Dk.low {w W : World} {db : Nat} {D : DS} (h : Dk w db D W) : Below w.heap.size w W := by obtain ⟨O, _, _, h3, _⟩ := h; exact h3
theorem Dk.wf {w W : World} {db : Nat} {D : DS} (h : Dk w db D W) : WF D := by obtain ⟨O, _, _, _, h4⟩ := h; exact h4
theorem Dk.size {w W : World} {db : Nat} {D : DS} (h : Dk w db D W) : w.heap.size ≤ W.heap.size := h.low.size
theorem Dk.past {w W W' : World} {O O' : Owner} (h2 : ∀ k, k < w.heap.size → O k = none) (h3 : Below w.heap.size w W) (hp : Past W O W' O') : (∀ k, k < w.heap.size → O' k = none) ∧ Below w.heap.size w W' :=
  ⟨hp.low h2 h3.size, h3.trans (hp.below h2 h3.size)⟩

theorem new_dk (room : Nat) (hr : room ≤ 1073741824) (w0 w : World) (hB : Below w0.heap.size w0 w) : Calls Try.prog 9 #[.int .i64 (room : Nat)] w fun e W => ∃ db, e = .returned (.tuple #[.pointer (some ⟨db, 0, none⟩), .int .i64 0]) ∧ Dk w0 db (DS.fresh room) W := by
  refine (new_calls (room : Nat) w ⟨by omega, by omega⟩).mono ?_
  rintro e W ⟨db, mb, rfl, h1, h2, h3, h4, h5, h6⟩
  have hs := hB.size
  refine ⟨db, rfl, _, DiskAt.made h4 h5 h2 h1, fun k hk => if_neg (by omega), hB.trans (h6.mono hs), WF.fresh room hr⟩

theorem Dk.write {w W : World} {db : Nat} {D : DS} (h : Dk w db D W) (hmade : D.made ≤ 4294967296) (s : ByteArray) (hs63 : s.size ≤ 9223372036854775807) (k : Int) (hk63 : k ≤ 9223372036854775807) (dv : Value) (bs : List Nat) (hdl : bs.length ≤ 140737488351232) (hI : Bytes W.heap.size W dv bs) :
    Calls Try.prog 21 #[.pointer (some ⟨db, 0, none⟩), .string s, .int .i64 k, dv] W fun e W' => e = .returned (.int .i64 (D.writeN s k bs.length : Nat)) ∧ Dk w db (D.write s k (str bs)) W' := by
  obtain ⟨O, h1, h2, h3, h4⟩ := h
  have hb := bytesS_str hI.lt
  refine (write_calls W O db D h1 h4 hmade s hs63 k hk63 dv (str bs) (by rw [str_size]; exact hdl) (by rw [hb]; exact hI)).mono ?_
  rintro e W' ⟨rfl, O', h5, h6⟩
  rw [str_size]
  obtain ⟨h7, h8⟩ := Dk.past h2 h3 h6
  exact ⟨rfl, O', h5, h7, h8, h4.write s k (str bs)⟩

theorem Dk.sync {w W : World} {db : Nat} {D : DS} (h : Dk w db D W) (s : ByteArray) (hs63 : s.size ≤ 9223372036854775807) :
    Calls Try.prog 13 #[.pointer (some ⟨db, 0, none⟩), .string s] W fun e W' => e = .returned (.int .i64 (D.syncN s : Nat)) ∧ Dk w db (D.sync s) W' := by
  obtain ⟨O, h1, h2, h3, h4⟩ := h
  refine (sync_calls W O db D h1 h4 s hs63).mono ?_
  rintro e W' ⟨rfl, O', h5, h6⟩
  obtain ⟨h7, h8⟩ := Dk.past h2 h3 h6
  exact ⟨rfl, O', h5, h7, h8, h4.sync s⟩

/-- Picks that lay before the law, or have come since the disk stood. -/
theorem Dk.crash {w W0 W : World} {db : Nat} {D : DS} (h : Dk w db D W0) (hB : Below W0.heap.size W0 W) (hmade : D.made ≤ 4294967296) (pv : Value) (picks : List Int) (hp : Ints (fun b => b < W.heap.size ∧ (b < w.heap.size ∨ W0.heap.size ≤ b)) W pv picks) :
    Calls Try.prog 15 #[.pointer (some ⟨db, 0, none⟩), pv] W fun e W' => e = .returned (.tuple #[]) ∧ Dk w db (D.crash picks) W' := by
  obtain ⟨O, h1, h2, h3, h4⟩ := h
  have hB3 := h3.trans (hB.mono h3.size)
  have hp2 : Ints (fun b => b < W.heap.size ∧ O b = none) W pv picks := by
    obtain ⟨A, cap, h5, h6, h7⟩ := hp
    refine ⟨A, cap, h5, h6, fun hl => ?_⟩
    obtain ⟨b, off, h8, ⟨h9, h10⟩, h11⟩ := h7 hl
    refine ⟨b, off, h8, ⟨h9, ?_⟩, h11⟩
    rcases h10 with h10 | h10
    · exact h2 b h10
    · exact Classical.byContradiction fun e => by have := h1.lt b e; omega
  refine (crash_calls W O db D (h1.below hB) h4 hmade pv picks hp2).mono ?_
  rintro e W' ⟨rfl, O', h5, h6⟩
  obtain ⟨h7, h8⟩ := Dk.past h2 hB3 h6
  exact ⟨rfl, O', h5, h7, h8, h4.crash picks⟩

theorem Dk.read {w W : World} {db : Nat} {D : DS} (h : Dk w db D W) (s : ByteArray) (hs : Short s) :
    Calls Try.prog 14 #[.pointer (some ⟨db, 0, none⟩), .string s] W fun e W' => ReadD W (D.now s) e W' ∧ Dk w db D W' := by
  obtain ⟨O, h1, _, _, h4⟩ := id h
  refine (readD_calls W O db D h1 h4 s hs).mono ?_
  intro e W' hr
  obtain ⟨v, _, _, hB⟩ := id hr
  exact ⟨hr, h.below hB⟩
theorem Dk.durable {w W : World} {db : Nat} {D : DS} (h : Dk w db D W) (s : ByteArray) (hs : Short s) :
    Calls Try.prog 16 #[.pointer (some ⟨db, 0, none⟩), .string s] W fun e W' => ReadD W (D.safe s) e W' ∧ Dk w db D W' := by
  obtain ⟨O, h1, _, _, h4⟩ := id h
  refine (durableD_calls W O db D h1 h4 s hs).mono ?_
  intro e W' hr
  obtain ⟨v, _, _, hB⟩ := id hr
  exact ⟨hr, h.below hB⟩
theorem Dk.pending {w W : World} {db : Nat} {D : DS} (h : Dk w db D W) (hmade : D.made ≤ 4294967296) :
    Calls Try.prog 28 #[.pointer (some ⟨db, 0, none⟩)] W fun e W' => e = .returned (.int .i64 (D.chs.length : Nat)) ∧ Dk w db D W' := by
  obtain ⟨O, h1, _, _, h4⟩ := id h
  refine (pending_calls W O db D h1 h4 hmade).mono ?_
  rintro e W' ⟨rfl, hB⟩
  exact ⟨rfl, h.below hB⟩

end Go.Proofs.Ytmegiilkcidanaa.Disk

/-
  A change that leaves less of a file (a cut, a removal): the disk behind it, as data and in memory.
-/
namespace Go.Proofs.Ytmegiilkcidanaa.Disk
open Go Go.RowKit Go.Lib Go.Proofs.Ytmegiilkcidanaa.Law

/-- The disk behind a change that leaves o of a file. -/
def DS.chg (D : DS) (s : ByteArray) (o : Option (List Nat)) (kind pos : Nat) : DS :=
  { D with used := D.used - (szO (D.now s) - szO o), made := D.made + 1, now := upd D.now s o, chs := D.chs ++ [(s, ⟨D.made, kind, pos, ⟨#[]⟩⟩)] }
theorem cutD_chg (D : DS) (s : ByteArray) (k : Nat) (hk : k ≤ szO (D.now s)) : D.cutD s k = D.chg s (some (((D.now s).getD []).take k)) 1 k := by
  unfold DS.cutD DS.chg
  have : szO (some (((D.now s).getD []).take k)) = k := by
    show (List.take _ _).length = k
    rw [List.length_take, szO_getD]; omega
  rw [this]
theorem removeD_chg (D : DS) (s : ByteArray) : D.removeD s = D.chg s none 2 0 := rfl

theorem WF.chg {D : DS} (h : WF D) {s : ByteArray} {o : Option (List Nat)} {kind pos : Nat} (hs : s ∈ D.names) (ho : szO o ≤ szO (D.now s)) (hk : kind ≤ 2) (hp : pos ≤ 1073741824) : WF (D.chg s o kind pos) := by
  have hsz := h.nowLe s
  constructor
  · exact h.nodup
  · intro x
    show x ∈ D.names ↔ upd D.now s o x ≠ none ∨ D.safe x ≠ none ∨ ∃ c, (x, c) ∈ D.chs ++ [(s, _)]
    by_cases hx : x = s
    · subst hx
      exact ⟨fun _ => .inr (.inr ⟨_, List.mem_append_right _ (List.mem_singleton.2 rfl)⟩), fun _ => hs⟩
    · rw [upd_other _ _ hx, h.names x]
      have e1 : (∃ c, (x, c) ∈ D.chs ++ [(s, (⟨D.made, kind, pos, ⟨#[]⟩⟩ : Chg))]) ↔ ∃ c, (x, c) ∈ D.chs := by
        constructor
        · rintro ⟨c, hc⟩
          rcases List.mem_append.1 hc with hc | hc
          · exact ⟨c, hc⟩
          · simp only [List.mem_singleton, Prod.mk.injEq] at hc
            exact absurd hc.1 hx
        · rintro ⟨c, hc⟩
          exact ⟨c, List.mem_append_left _ hc⟩
      rw [e1]
  · exact h.right
  · show D.names.length ≤ D.made + 1
    have := h.count; omega
  · intro x b hb
    have hb' : upd D.now s o x = some b := hb
    by_cases hx : x = s
    · subst hx
      rw [upd_same] at hb'
      subst hb'
      exact Nat.le_trans ho hsz
    · rw [upd_other _ _ hx] at hb'; exact h.nowSz x b hb'
  · exact h.safeSz
  · intro x hx
    rcases List.mem_append.1 (show x ∈ D.chs ++ [_] from hx) with hx | hx
    · exact h.chSz x hx
    · simp only [List.mem_singleton] at hx
      subst hx
      show pos + 0 ≤ _; omega
  · refine List.pairwise_append.2 ⟨h.asc, by simp, fun a ha b hb => ?_⟩
    simp only [List.mem_singleton] at hb
    subst hb; exact h.below a ha
  · intro x hx
    show x.2.n < D.made + 1
    rcases List.mem_append.1 (show x ∈ D.chs ++ [_] from hx) with hx | hx
    · have := h.below x hx; omega
    · simp only [List.mem_singleton] at hx
      subst hx; exact Nat.lt_succ_self _
  · intro x hx
    rcases List.mem_append.1 (show x ∈ D.chs ++ [_] from hx) with hx | hx
    · exact h.kind x hx
    · simp only [List.mem_singleton] at hx
      subst hx; exact hk
  · show (D.chs ++ [_]).length ≤ D.made + 1
    have := h.len
    simp; exact this
  · exact h.room
  · show D.used - (szO (D.now s) - szO o) = total D.names (upd D.now s o)
    have hu := h.used
    have h1 := total_in D.now s o D.names h.nodup hs
    have h2 := total_ge D.now s D.names hs
    omega

/-- A file's block with another content. -/
def setNow (W : World) (fb : Nat) (there : Bool) (v : Value) : World := (W.setCell ⟨fb, 0, none⟩ (.bool there)).setCell ⟨fb, 1, none⟩ v
theorem setNow_other {W : World} {fb k : Nat} {there : Bool} {v : Value} (h : k ≠ fb) : (setNow W fb there v).heap[k]? = W.heap[k]? := by
  unfold setNow
  rw [Below.heap_setCell _ _ _ _ h, Below.heap_setCell _ _ _ _ h]
theorem setNow_size (W : World) (fb : Nat) (there : Bool) (v : Value) : (setNow W fb there v).heap.size = W.heap.size := by simp [setNow, World.setCell]
theorem setNow_file {W : World} {fb : Nat} {nt st sh there : Bool} {nv sv cv v : Value} (h : FB W fb nt nv st sv sh cv) : FB (setNow W fb there v) fb there v st sv sh cv := by
  have h1 := block_set h 0 (.bool there)
  have h2 := block_set h1 1 v
  exact h2.trans (by simp)

/-- The disk in memory behind such a change. -/
theorem chg_done {w w0 W4 : World} {O : Owner} {db mb fb kind pos : Nat} {D : DS} {F : ByteArray → Option Nat} {s : ByteArray} {v : KV} {o : Option (List Nat)} {nv' : Value}
    (hc : Core w O db mb D F) (hf : ∀ x ∈ D.names, ∃ fb, F x = some fb ∧ FileAt w O (db + 1) x fb (D.now x) (D.safe x) (mine x D.chs))
    (hB : Below w.heap.size w w0) (hFs : F s = some fb) (hv : FileV w O (db + 1) s fb (D.now s) (D.safe s) (mine s D.chs) v)
    (hbuf : Buf w (db + 1) 5 nv' (o.getD [])) (hown : ∀ g, nv'.ownBlock = some g → (v.now (szO (D.now s))).ownBlock = some g) (hsh : Share v.sh nv' (v.safe (szO (D.safe s))) (szO o) (szO (D.safe s)))
    (hN : Noted (setNow w0 fb o.isSome nv') db mb fb (D.room : Int) (D.used : Int) D.made D.fails o.isSome (D.safe s).isSome v.sh nv' (v.safe (szO (D.safe s))) (v.chs (mine s D.chs).length) (mine s D.chs) ⟨0, kind, pos, ⟨#[]⟩⟩ (db + 1) W4) :
    ∃ O', DiskAt (W4.setCell ⟨db, 2, none⟩ (.int .i64 ((D.used - (szO (D.now s) - szO o) : Nat) : Int))) O' db (D.chg s o kind pos) ∧
      Past w O (W4.setCell ⟨db, 2, none⟩ (.int .i64 ((D.used - (szO (D.now s) - szO o) : Nat) : Int))) O' := by
  obtain ⟨u, hu⟩ : ∃ u : Value, .int .i64 ((D.used - (szO (D.now s) - szO o) : Nat) : Int) = u := ⟨_, rfl⟩
  rw [hu]
  have hdb := hc.disk.lt
  have hmb : mb < w.heap.size := hc.lt mb (by rw [hc.omb]; simp)
  obtain ⟨v1, v2, v3, v4, v5, v6, v7⟩ := hv
  obtain ⟨cv', y1, y2, y3, y4, y5, y6, y7, y8, y9⟩ := hN
  have hfb := v1.lt
  have hdbf : db ≠ fb := fun e => by rw [← e, hc.odb] at v6; cases v6
  have hmbf : mb ≠ fb := fun e => by rw [← e, hc.omb] at v6; cases v6
  have hdbm : db ≠ mb := fun e => by
    obtain ⟨n, _, hm⟩ := hc.map
    obtain ⟨a, c, h2⟩ := hm.isMap
    have h1 := hc.disk
    unfold DB at h1
    rw [e, h2] at h1
    cases h1
  have hs0 := setNow_size w0 fb o.isSome nv'
  have hoth := fun k (hk : k ≠ fb) => setNow_other (W := w0) (there := o.isSome) (v := nv') hk
  have h3 : (setNow w0 fb o.isSome nv').os = w0.os ∧ (setNow w0 fb o.isSome nv').tape = w0.tape ∧ (setNow w0 fb o.isSome nv').output = w0.output := ⟨rfl, rfl, rfl⟩
  rw [hs0] at y8 y9
  rw [h3.1] at y5
  rw [h3.2.1] at y6
  rw [h3.2.2] at y7
  have hBs := hB.size
  have hset : ∀ k, k ≠ db → (W4.setCell ⟨db, 2, none⟩ u).heap[k]? = W4.heap[k]? := fun k hk => Below.heap_setCell _ _ _ _ hk
  have hsz : (W4.setCell ⟨db, 2, none⟩ u).heap.size = W4.heap.size := by simp [World.setCell]
  have hkeep : ∀ k, k < w.heap.size → k ≠ db → k ≠ fb → (v.chs (mine s D.chs).length).ownBlock ≠ some k → (W4.setCell ⟨db, 2, none⟩ u).heap[k]? = w.heap[k]? := fun k hk h1 h2 h4 => by
    rw [hset k h1, y9 k (by omega) h1 h2 h4, hoth k h2, hB.block k hk]
  have hcmb : (v.chs (mine s D.chs).length).ownBlock ≠ some mb := fun e => by
    have := v7 mb (.inr (.inr e)); rw [hc.omb] at this; cases this
  -- a row of bytes lies in no row of changes
  have hcn : ∀ {b1 : Nat} {x : Value} {bs : List Nat}, Buf w b1 5 x bs → ∀ g, x.ownBlock = some g → (v.chs (mine s D.chs).length).ownBlock ≠ some g := fun {b1 x bs} hx g hg e => by
    rcases hx.2 with ⟨h1, _⟩ | ⟨g1, cap, cur, h1, _, h2, _⟩
    · rw [h1] at hg; cases hg
    · rcases v5.2 with ⟨h3, _⟩ | ⟨g2, cap2, cur2, h3, _, h4, _⟩
      · rw [h3] at e; cases e
      · rw [h1] at hg; rw [h3] at e
        have e1 : g1 = g := by simpa [Value.ownBlock] using hg
        have e2 : g2 = g := by simpa [Value.ownBlock] using e
        subst e1 e2
        rw [h2] at h4
        have := Option.some.inj h4
        injection this with _ h5 _
        exact absurd h5 (by decide)
  have hB4 : ∀ {b1 : Nat} {x : Value} {bs : List Nat}, Buf w (db + 1) 5 x bs → Buf (W4.setCell ⟨db, 2, none⟩ u) (db + 1) 5 x bs := fun {b1 x bs} hx => hx.keep fun g hg => by
    have h1 := hx.own g hg
    exact hkeep g h1.2 (by omega) (fun e => buf_not_file v1 hx (e ▸ hg)) (hcn hx g hg)
  refine ⟨own O w.heap.size (W4.setCell ⟨db, 2, none⟩ u).heap.size s, DiskAt.turned (s := s) (fb := fb) (F' := F) hc (fun x hx _ => hf x hx) ?_ ?_ ?_ (by rw [hsz]; omega) ?_ ?_ ?_ (y5.symm.trans hB.os) (y6.symm.trans hB.tape) (y7.symm.trans hB.output)⟩
  · show (W4.setCell ⟨db, 2, none⟩ u).heap[db]? = some (.cells #[.map (some mb), .int .i64 (D.room : Int), .int .i64 ((D.used - (szO (D.now s) - szO o) : Nat) : Int), .int .i64 ((D.made + 1 : Nat) : Int), .bool D.fails] 64 (0, 0))
    rw [hu]
    exact (block_set y1 2 u).trans (by simp)
  · obtain ⟨n, hn, hm⟩ := hc.map
    exact ⟨n, by show n ≤ D.made + 1; omega, hm.at (hkeep mb hmb (Ne.symm hdbm) hmbf hcmb)⟩
  · exact hc.dom
  · intro k hk ho
    obtain ⟨h1, h2⟩ := not_of_owner ho
    exact hkeep k hk (fun e => h1 (e ▸ hc.odb)) (fun e => h2 (e ▸ v6)) (fun e => h2 (v7 k (.inr (.inr e))))
  · intro x hx hxs
    refine ⟨hx, rfl, upd_other _ _ hxs, rfl, ?_⟩
    show mine x (D.chs ++ [(s, _)]) = _
    rw [mine_append, mine_one_other _ (Ne.symm hxs), List.append_nil]
  · intro _
    refine ⟨hFs, ?_⟩
    have e1 : (D.chg s o kind pos).now s = o := upd_same _ _ _
    have e2 : mine s (D.chg s o kind pos).chs = mine s D.chs ++ [⟨D.made, kind, pos, ⟨#[]⟩⟩] := by
      show mine s (D.chs ++ [(s, _)]) = _
      rw [mine_append, mine_one]
    rw [e1, e2]
    refine ⟨v.sh, nv', v.safe (szO (D.safe s)), cv', (hset fb (Ne.symm hdbf)).trans y2, hB4 (b1 := 0) hbuf, hB4 (b1 := 0) v3, by rw [szO_getD, szO_getD]; exact hsh, y3.keep (fun g hg => hset g (by have := (y3.own g hg).1; omega)), ?_, ?_⟩
    · rw [own_old hfb]; exact v6
    · rintro g (hg | hg | hg)
      · rw [own_old (v2.own g (hown g hg)).2]; exact v7 g (.inl (hown g hg))
      · rw [own_old (v3.own g hg).2]; exact v7 g (.inr (.inl hg))
      · rcases y4 with h1 | ⟨g2, h1, h2⟩
        · rw [h1] at hg; rw [own_old (v5.own g hg).2]; exact v7 g (.inr (.inr hg))
        · rw [hg] at h1
          have : g = g2 := by simpa using h1
          rw [hs0] at h2
          exact own_new (by omega) (by rw [hsz]; exact (y3.own g hg).2)

end Go.Proofs.Ytmegiilkcidanaa.Disk
