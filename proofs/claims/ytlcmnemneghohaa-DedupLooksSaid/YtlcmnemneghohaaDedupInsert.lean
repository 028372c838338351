/-
  Contract of slices.Insert at rows.
-/
import Derived.Test.YtlcmnemneghohaaDedupGood
import Derived.Test.YtlcmnemneghohaaCopyRows
import Derived.Shelf.Spec.SlicesInsertGrow
namespace Go.Proofs.Ytlcmnemneghohaa.Dedup
open Go Go.RowKit Go.Lib Go.Sort Go.Shelf Go.Proofs Go.Proofs.Ytlcmnemneghohaa.Law

theorem info_row : (Try.prog.info? 42).map (fun i => (i.zero, i.size, i.bytes)) = some (some (.agg #[.int .i64 0, .int .i64 0, .int .i64 0]), 3, 24) := by kernel_rfl
theorem size_row : (Try.prog.info? 42).map (·.size) = some 3 := by kernel_rfl
theorem sizeOf_row : ∀ w, (Go.sizeOf 42).run Try.prog w = .ok 3 w := fun w => by
  cases hq : Try.prog.info? 42 with
  | none => have := size_row; rw [hq] at this; cases this
  | some i =>
    have hi : i.size = 3 := by have := size_row; rw [hq] at this; simpa using this
    simp [sizeOf, typeInfo, hq, hi]
abbrev flatW (l : List Rw) : List Value := flat3 pV qV nV l
theorem flatW_one (l : List Rw) : ∀ u ∈ flatW l, u.oneCell' = true := flat3_one (fun _ => rfl) (fun _ => rfl) (fun _ => rfl) l

/-- Two writes into a row: what stood from i on moved behind, and what is put there. -/
theorem put_shift (C : List Value) (l ms : List Rw) (i : Nat) (hi : i ≤ l.length) (hC : C.take (l.length * 3) = flatW l) (hl : (l.length + ms.length) * 3 ≤ C.length) :
    let C1 := C.take ((i + ms.length) * 3) ++ flatW (l.drop i) ++ C.drop ((i + ms.length) * 3 + (flatW (l.drop i)).length)
    let C2 := C1.take (i * 3) ++ flatW ms ++ C1.drop (i * 3 + (flatW ms).length)
    C1.length = C.length ∧ C2.length = C.length ∧ C2.take ((l.length + ms.length) * 3) = flatW (l.take i ++ ms ++ l.drop i) := by
  intro C1 C2
  have hd : (flatW (l.drop i)).length = (l.length - i) * 3 := by rw [flat3_length, List.length_drop]
  have hm : (flatW ms).length = ms.length * 3 := flat3_length _
  have h1 : C1.length = C.length := by
    show (C.take ((i + ms.length) * 3) ++ flatW (l.drop i) ++ C.drop ((i + ms.length) * 3 + (flatW (l.drop i)).length)).length = _
    simp only [List.length_append, List.length_take, List.length_drop, hd]
    omega
  have h2 : C2.length = C.length := by
    show (C1.take (i * 3) ++ flatW ms ++ C1.drop (i * 3 + (flatW ms).length)).length = _
    simp only [List.length_append, List.length_take, List.length_drop, hm]
    omega
  refine ⟨h1, h2, ?_⟩
  have e1 : C1.take (i * 3) = flatW (l.take i) := by
    show (C.take ((i + ms.length) * 3) ++ flatW (l.drop i) ++ C.drop ((i + ms.length) * 3 + (flatW (l.drop i)).length)).take (i * 3) = _
    rw [List.append_assoc, List.take_append_of_le_length (by rw [List.length_take]; omega), List.take_take, Nat.min_eq_left (by omega)]
    show _ = flat3 pV qV nV (l.take i)
    rw [← flat3_take]
    show _ = (flatW l).take (i * 3)
    rw [← hC, List.take_take, Nat.min_eq_left (by omega)]
  have e2 : C1.drop (i * 3 + (flatW ms).length) = flatW (l.drop i) ++ C.drop ((i + ms.length) * 3 + (flatW (l.drop i)).length) := by
    show (C.take ((i + ms.length) * 3) ++ flatW (l.drop i) ++ C.drop ((i + ms.length) * 3 + (flatW (l.drop i)).length)).drop (i * 3 + (flatW ms).length) = _
    rw [List.append_assoc, List.drop_append_of_le_length (by rw [List.length_take]; omega), List.drop_take, show (i + ms.length) * 3 - (i * 3 + (flatW ms).length) = 0 by omega, List.take_zero, List.nil_append]
  show (C1.take (i * 3) ++ flatW ms ++ C1.drop (i * 3 + (flatW ms).length)).take ((l.length + ms.length) * 3) = _
  have e3 : (flatW (l.take i)).length = i * 3 := by rw [flat3_length, List.length_take]; omega
  rw [e1, e2, ← List.append_assoc, List.take_append_of_le_length (by simp only [List.length_append, hd, hm, e3]; omega), List.take_of_length_le (by simp only [List.length_append, hd, hm, e3]; omega)]
  show _ = flat3 pV qV nV _
  rw [flat3_append, flat3_append]

/-- What Insert leaves. -/
def Ins (w : World) (base : Nat) (r : List Rw) (e : Ending) (W : World) : Prop := ∃ v, e = .returned v ∧ OwnW W base v r ∧ Below base w W

theorem ownW_cellAt {W : World} {base g n cap : Nat} {l : List Rw} (h : OwnW W base (.slice (some ⟨g, 0, none⟩) n cap) l) {j : Nat} {u : Value} (hu : (flatW l)[j]? = some u) : W.cell? ⟨g, j, none⟩ = some u := by
  have := World.ownsRow.cells h (g := g) rfl j u hu
  rwa [Addr.add_lit, Nat.zero_add] at this

set_option maxRecDepth 1000000 in
set_option maxHeartbeats 8000000 in
theorem insert_shift (w : World) (base g n cap i bv m vc : Nat) (l ms : List Rw) (vcur : Array Value) (h : OwnW w base (.slice (some ⟨g, 0, none⟩) n cap) l) (hn : l.length = n) (hi : i < n) (hm : 0 < m) (hml : ms.length = m) (hroom : n + m ≤ cap)
    (hv : w.heap[bv]? = some (.cells vcur 42 (0, 0))) (hvc : vcur.toList = flatW ms) (hne : bv ≠ g) :
    Calls Try.prog 22 #[.slice (some ⟨g, 0, none⟩) n cap, .int .i64 (i : Nat), .slice (some ⟨bv, 0, none⟩) m vc] w (Ins w base (l.take i ++ ms ++ l.drop i)) := by
  have hcells := fun {j : Nat} {u : Value} => ownW_cellAt h (j := j) (u := u)
  rcases h.2 with ⟨h0, _⟩ | ⟨g', cap', cur, hv1, hbg, hg, hnc, hcm, hcs, ht⟩
  · cases h0
  simp only [Value.slice.injEq, Option.some.injEq, Addr.mk.injEq, and_true] at hv1
  obtain ⟨rfl, hnl, rfl⟩ := hv1
  clear hnl
  have hlen : (flatW (l.drop i)).length = (n - i) * 3 := by rw [flat3_length, List.length_drop, hn]
  have hlms : (flatW ms).length = m * 3 := by rw [flat3_length, hml]
  obtain ⟨s1, s2, s3⟩ := put_shift cur.toList l ms i (by omega) (by rw [hn] at ht ⊢; exact ht) (by have := Array.length_toList (xs := cur); omega)
  rw [hml, hlen] at s1 s2 s3
  rw [hlms] at s2 s3
  obtain ⟨C1, hC1⟩ : ∃ C1, (cur.toList.take ((i + m) * 3) ++ flatW (l.drop i) ++ cur.toList.drop ((i + m) * 3 + (n - i) * 3)).toArray = C1 := ⟨_, rfl⟩
  have hC1l : cur.toList.take ((i + m) * 3) ++ flatW (l.drop i) ++ cur.toList.drop ((i + m) * 3 + (n - i) * 3) = C1.toList := by rw [← hC1]
  rw [hC1l] at s1 s2 s3
  obtain ⟨C2, hC2⟩ : ∃ C2, (C1.toList.take (i * 3) ++ flatW ms ++ C1.toList.drop (i * 3 + m * 3)).toArray = C2 := ⟨_, rfl⟩
  have hC2l : C1.toList.take (i * 3) ++ flatW ms ++ C1.toList.drop (i * 3 + m * 3) = C2.toList := by rw [← hC2]
  rw [hC2l] at s2 s3
  rw [Array.length_toList, Array.length_toList] at s1 s2
  have hcp1 : ∀ ty dc sc, (Builtin.copy_ #[22, 22] ty #[.slice (some ⟨g, (i + m) * 3, none⟩) (n + m - (i + m)) dc, .slice (some ⟨g, i * 3, none⟩) (n + m - i) sc]).run Try.prog w.drew = .ok (goInt (Nat.min (n + m - i) (n + m - (i + m)) : Nat)) (w.drew.setRow g C1) := fun ty dc sc => by
    have := run_copy_rows (P := Try.prog) w.drew 22 22 ty 42 g ((i + m) * 3) (n + m - (i + m)) dc ⟨g, i * 3, none⟩ (n + m - i) sc 3 cur 42 (flatW (l.drop i)) Try.underlying22 size_row hg
      (by rw [hlen]; simp only [Nat.min_def]; split <;> omega) (fun j v hj => by
        have hj' : ((flatW l).drop (i * 3))[j]? = some v := by
          show (List.drop (i * 3) (flat3 pV qV nV l))[j]? = some v
          rw [flat3_drop]; exact hj
        rw [List.getElem?_drop] at hj'
        rw [Addr.add_lit]
        exact hcells hj') (by rw [hlen, hcs]; omega) (flatW_one _)
    rw [hlen, hC1] at this
    exact this
  have hg1 : (w.drew.setRow g C1).heap[g]? = some (.cells C1 42 (0, 0)) := setRow_heap w.drew g cur C1 _ _ hg
  have hv1 : (w.drew.setRow g C1).heap[bv]? = some (.cells vcur 42 (0, 0)) := (setRow_other _ g bv _ hne).trans hv
  have hcp2 : ∀ (W : World), W.heap = (w.drew.setRow g C1).heap → ∀ ty dc, (Builtin.copy_ #[22, 22] ty #[.slice (some ⟨g, i * 3, none⟩) (n + m - i) dc, .slice (some ⟨bv, 0, none⟩) m vc]).run Try.prog W = .ok (goInt (Nat.min m (n + m - i) : Nat)) (W.setRow g C2) := fun W hW ty dc => by
    have := run_copy_rows (P := Try.prog) W 22 22 ty 42 g (i * 3) (n + m - i) dc ⟨bv, 0, none⟩ m vc 3 C1 42 (flatW ms) Try.underlying22 size_row (by rw [hW]; exact hg1)
      (by rw [hlms]; simp only [Nat.min_def]; split <;> omega) (fun j v hj => by
        rw [Addr.add_lit, Nat.zero_add]
        rw [← hvc, Array.getElem?_toList] at hj
        simp only [World.cell?, hW, hv1]
        exact hj) (by rw [hlms, s1, hcs]; omega) (flatW_one _)
    rw [hlms, hC2] at this
    exact this
  have hov : ∀ lb cb, (callFunc 29 #[.slice (some ⟨bv, 0, none⟩) m vc, .slice (some ⟨g, (i + m) * 3, none⟩) lb cb]).run Try.prog w = .ok (.value (.bool false)) w := fun lb cb => by
    have hsa : w.shape? bv = some (42, vcur.size) := by simp [World.shape?, hv]
    have hsb : w.shape? g = some (42, cur.size) := by simp [World.shape?, hg]
    have hfa : w.frozen? ⟨bv, 0, none⟩ = false := by simp [World.frozen?, hv]
    have hfe : w.frozen? ⟨bv, vcur.size, none⟩ = false := by simp [World.frozen?, hv]
    rw [run_callFunc_extern Try.func29 (by kernel_rfl) (by kernel_rfl) (by kernel_rfl) (e := Extern.SlicesOverlaps.overlaps #[22, 22] #[4]) (by kernel_rfl),
      Lib.run_overlaps_apart w 22 4 42 Try.underlying22 3 sizeOf_row ⟨bv, 0, none⟩ ⟨g, (i + m) * 3, none⟩ m vc lb cb hne _ _ _ _ hsa hsb (by rw [hcs]; omega) hfa hfe]
    rfl
  have HF : Hid (∀ W : World, W.heap = (w.drew.setRow g C1).heap → W.os = w.os → W.tape = w.tape → W.output = w.output → Ins w base (l.take i ++ ms ++ l.drop i) (.returned (.slice (some ⟨g, 0, none⟩) (n + m) cap)) (W.setRow g C2)) := Lib.hid fun W hW h1 h2 h3 => by
    have hlr : (l.take i ++ ms ++ l.drop i).length = n + m := by simp only [List.length_append, List.length_take, List.length_drop, hn, hml]; omega
    refine ⟨_, rfl, ⟨flat3_length _, .inr ⟨g, cap, C2, by rw [hlr], hbg, setRow_heap W g C1 C2 _ _ (by rw [hW]; exact hg1), by rw [hlr]; exact hroom, hcm, by rw [s2, hcs], ?_⟩⟩, ?_⟩
    · rw [hlr, ← hn, ← hml]
      rw [hn, hml]; rw [hn] at s3; exact s3
    · refine ⟨h1, h2, h3, ?_, fun k hk => ?_⟩
      · rw [setRow_size, hW, setRow_size]; exact Nat.le_refl _
      · rw [setRow_other _ _ _ _ (by omega), hW, setRow_other _ _ _ _ (by omega)]; rfl
  have HCP2 := Lib.hid (hcp2 (w.drew.setRow g C1) rfl)
  have hz1 : ¬ ((m : Int) = 0) := by omega
  have hz2 : ¬ ((i : Int) = (n : Int)) := by omega
  have hw1 : IntKind.i64.wrap ((i : Int) + (m : Int)) = (i : Int) + (m : Int) := by rw [IntKind.wrap_i64]; simp only [maxLen] at hcm; omega
  have hb1 : (0 : Int) ≤ (i : Int) + (m : Int) := by omega
  have hin : i ≤ n := by omega
  have htn : ((i : Int) + (m : Int)).toNat = i + m := by omega
  have hb3 : (i : Int) ≤ (n : Int) + (m : Int) := by omega
  have hc63 : cap ≤ 9223372036854775807 := by simp only [maxLen] at hcm; exact hcm
  have hb2 : ¬ (cap = i + m) := by omega
  have hb4 : ¬ (cap = i) := by omega
  clear hcp2 hg1 hv1 s1 s2 s3 hC1 hC1l hC2 hC2l hlen hlms hcs ht hcm hcells h hn hml hv hvc hne hg hbg
  go_enter Try.func22, Try.ntmps22
  go_wp2_with (simp only [hov])
  have mixed : Try.prog.follows .mixedOrders = true := by kernel_rfl
  go_region_law_o (refine step_copy_runI rfl _ _ 22 22 rfl _ _ (by simp [Act.eval, Act.put]) (by simp [Act.eval, Act.put]) (hcp1 _ _ _) ?_)
  have hc2 := HCP2.out
  go_wp2_with fail
  go_ret
  exact HF.out _ rfl rfl rfl rfl

/-- Two writes into a new row. -/
theorem put_grow (R : List Value) (l ms : List Rw) (i : Nat) (hi : i ≤ l.length) (hR : R.take (i * 3) = flatW (l.take i)) (hl : (l.length + ms.length) * 3 ≤ R.length) :
    let C1 := R.take (i * 3) ++ flatW ms ++ R.drop (i * 3 + (flatW ms).length)
    let C2 := C1.take ((i + ms.length) * 3) ++ flatW (l.drop i) ++ C1.drop ((i + ms.length) * 3 + (flatW (l.drop i)).length)
    C1.length = R.length ∧ C2.length = R.length ∧ C2.take ((l.length + ms.length) * 3) = flatW (l.take i ++ ms ++ l.drop i) := by
  intro C1 C2
  have hd : (flatW (l.drop i)).length = (l.length - i) * 3 := by rw [flat3_length, List.length_drop]
  have hm : (flatW ms).length = ms.length * 3 := flat3_length _
  have e3 : (flatW (l.take i)).length = i * 3 := by rw [flat3_length, List.length_take]; omega
  have h1 : C1.length = R.length := by
    show (R.take (i * 3) ++ flatW ms ++ R.drop (i * 3 + (flatW ms).length)).length = _
    simp only [List.length_append, List.length_take, List.length_drop, hm]
    omega
  have h2 : C2.length = R.length := by
    show (C1.take ((i + ms.length) * 3) ++ flatW (l.drop i) ++ C1.drop ((i + ms.length) * 3 + (flatW (l.drop i)).length)).length = _
    simp only [List.length_append, List.length_take, List.length_drop, hd]
    omega
  refine ⟨h1, h2, ?_⟩
  have e1 : C1.take ((i + ms.length) * 3) = flatW (l.take i) ++ flatW ms := by
    show (R.take (i * 3) ++ flatW ms ++ R.drop (i * 3 + (flatW ms).length)).take ((i + ms.length) * 3) = _
    rw [hR, List.take_append_of_le_length (by simp only [List.length_append, hm, e3]; omega), List.take_of_length_le (by simp only [List.length_append, hm, e3]; omega)]
  show (C1.take ((i + ms.length) * 3) ++ flatW (l.drop i) ++ C1.drop ((i + ms.length) * 3 + (flatW (l.drop i)).length)).take ((l.length + ms.length) * 3) = _
  rw [e1, List.take_append_of_le_length (by simp only [List.length_append, hd, hm, e3]; omega), List.take_of_length_le (by simp only [List.length_append, hd, hm, e3]; omega)]
  show _ = flat3 pV qV nV _
  rw [flat3_append, flat3_append]

set_option maxRecDepth 1000000 in
set_option maxHeartbeats 8000000 in
theorem insert_grow (w : World) (base g n cap i bv m vc : Nat) (l ms : List Rw) (vcur : Array Value) (h : OwnW w base (.slice (some ⟨g, 0, none⟩) n cap) l) (hn : l.length = n) (hi : i < n) (hm : 0 < m) (hml : ms.length = m) (hroom : cap < n + m) (hbase : base ≤ w.heap.size) (hbig : (n + m) * 24 ≤ 140737488355328)
    (hv : w.heap[bv]? = some (.cells vcur 42 (0, 0))) (hvc : vcur.toList = flatW ms) :
    Calls Try.prog 22 #[.slice (some ⟨g, 0, none⟩) n cap, .int .i64 (i : Nat), .slice (some ⟨bv, 0, none⟩) m vc] w (Ins w base (l.take i ++ ms ++ l.drop i)) := by
  have hcells := fun {j : Nat} {u : Value} => ownW_cellAt h (j := j) (u := u)
  rcases h.2 with ⟨h0, _⟩ | ⟨g', cap', cur, hv1, hbg, hg, hnc, hcm, hcs, ht⟩
  · cases h0
  simp only [Value.slice.injEq, Option.some.injEq, Addr.mk.injEq, and_true] at hv1
  obtain ⟨rfl, hnl, rfl⟩ := hv1
  clear hnl
  rw [hn] at hnc
  obtain ⟨i0, hi0, hz0, hzs, hzb⟩ := info_parts info_row
  have hlen : (flatW (l.drop i)).length = (n - i) * 3 := by rw [flat3_length, List.length_drop, hn]
  have hlms : (flatW ms).length = m * 3 := by rw [flat3_length, hml]
  have htk : (flatW (l.take i)).length = i * 3 := by rw [flat3_length, List.length_take, hn]; omega
  have hkk : (n : Int) + (m : Int) - (i : Int) = ((n + m - i : Nat) : Int) := by omega
  have hik : i + (n + m - i) = n + m := by omega
  have hgw : g < w.heap.size := by rcases Nat.lt_or_ge g w.heap.size with h1 | h1; exact h1; rw [Array.getElem?_eq_none h1] at hg; cases hg
  have hvw : bv < w.heap.size := by rcases Nat.lt_or_ge bv w.heap.size with h1 | h1; exact h1; rw [Array.getElem?_eq_none h1] at hv; cases hv
  have hold : (Builtin.firstCells i0.size i (.slice (some ⟨g, 0, none⟩) i cap)).run Try.prog w.drew = .ok (flatW (l.take i)).toArray w.drew := by
    rw [hzs]
    exact run_firstCells_some w.drew 3 i ⟨g, 0, none⟩ i cap (flatW (l.take i)) htk (fun j v hj => by
      have hj' : ((flatW l).take (i * 3))[j]? = some v := by
        show (List.take (i * 3) (flat3 pV qV nV l))[j]? = some v
        rw [flat3_take]; exact hj
      rw [Addr.add_lit, Nat.zero_add]
      rw [List.getElem?_take] at hj'
      split at hj'
      · exact hcells hj'
      · cases hj')
  obtain ⟨G, hG⟩ : ∃ G, grownCap w (n + m) cap 42 = G := ⟨_, rfl⟩
  have hGn : n + m ≤ G := by rw [← hG]; exact grownCap_ge w _ _ _
  have hGm : G ≤ maxLen := by rw [← hG]; exact grownCap_le_maxLen w _ _ _ (by simp only [maxLen]; omega)
  obtain ⟨Z, hZ⟩ : ∃ Z, (Value.agg #[.int .i64 0, .int .i64 0, .int .i64 0]).cells = Z := ⟨_, rfl⟩
  obtain ⟨R, hR⟩ : ∃ R, (flatW (l.take i)).toArray ++ Builtin.zeroCells Z (n + m - i) ++ Builtin.zeroCells Z (G - (n + m)) = R := ⟨_, rfl⟩
  have hZ3 : Z.size = 3 := by rw [← hZ]; rfl
  have hrz : ∀ ty, (Builtin.append_ #[22, 3] ty #[.slice (some ⟨g, 0, none⟩) i cap, .int .i64 ((n : Int) + (m : Int) - (i : Int))]).run Try.prog w =
      .ok (.slice (some ⟨w.heap.size, 0, none⟩) (n + m) G) (w.drew.alloc (.cells R 42)) := fun ty => by
    have h := Lib.run_append_grow_zeros w 22 3 ty 42 i0 _ .i64 .i64 Try.underlying22 Try.underlying3 hi0 hz0 (some ⟨g, 0, none⟩) i cap (flatW (l.take i)) hold (n + m - i) (by omega) (by omega) (by omega) (by omega) (by rw [hzb]; omega) (by rw [hzb, hik]; exact growslice_fits hroom hbig)
    rw [hik, hG, hZ, hR] at h
    rw [hkk]
    exact h
  have hRl : R.toList = flatW (l.take i) ++ (Builtin.zeroCells Z (n + m - i)).toList ++ (Builtin.zeroCells Z (G - (n + m))).toList := by rw [← hR]; simp
  have hRs : R.size = G * 3 := by
    have : R.toList.length = G * 3 := by
      rw [hRl]
      simp only [List.length_append, htk, Array.length_toList, size_zeroCells, hZ3]
      omega
    rwa [Array.length_toList] at this
  have hRt : R.toList.take (i * 3) = flatW (l.take i) := by
    rw [hRl, List.append_assoc, ← htk, List.take_left]
  obtain ⟨s1, s2, s3⟩ := put_grow R.toList l ms i (by omega) hRt (by have := Array.length_toList (xs := R); omega)
  rw [hlms] at s1 s2 s3
  rw [hml, hlen] at s2 s3
  obtain ⟨C1, hC1⟩ : ∃ C1, (R.toList.take (i * 3) ++ flatW ms ++ R.toList.drop (i * 3 + m * 3)).toArray = C1 := ⟨_, rfl⟩
  have hC1l : R.toList.take (i * 3) ++ flatW ms ++ R.toList.drop (i * 3 + m * 3) = C1.toList := by rw [← hC1]
  rw [hC1l] at s1 s2 s3
  obtain ⟨C2, hC2⟩ : ∃ C2, (C1.toList.take ((i + m) * 3) ++ flatW (l.drop i) ++ C1.toList.drop ((i + m) * 3 + (n - i) * 3)).toArray = C2 := ⟨_, rfl⟩
  have hC2l : C1.toList.take ((i + m) * 3) ++ flatW (l.drop i) ++ C1.toList.drop ((i + m) * 3 + (n - i) * 3) = C2.toList := by rw [← hC2]
  rw [hC2l] at s2 s3
  rw [Array.length_toList, Array.length_toList] at s1 s2
  obtain ⟨N, hN⟩ : ∃ N, w.heap.size = N := ⟨_, rfl⟩
  have hgN : (w.alloc (.cells R 42)).heap[N]? = some (.cells R 42 (0, 0)) := by rw [← hN]; exact heap_alloc_new w _
  have hcpA : ∀ (W : World), W.heap = (w.alloc (.cells R 42)).heap → ∀ ty dc, (Builtin.copy_ #[22, 22] ty #[.slice (some ⟨N, i * 3, none⟩) (n + m - i) dc, .slice (some ⟨bv, 0, none⟩) m vc]).run Try.prog W = .ok (goInt (Nat.min m (n + m - i) : Nat)) (W.setRow N C1) := fun W hW ty dc => by
    have := run_copy_rows (P := Try.prog) W 22 22 ty 42 N (i * 3) (n + m - i) dc ⟨bv, 0, none⟩ m vc 3 R 42 (flatW ms) Try.underlying22 size_row (by rw [hW]; exact hgN)
      (by rw [hlms]; simp only [Nat.min_def]; split <;> omega) (fun j v hj => by
        rw [Addr.add_lit, Nat.zero_add]
        rw [← hvc, Array.getElem?_toList] at hj
        have hb : (w.alloc (.cells R 42)).heap[bv]? = some (.cells vcur 42 (0, 0)) := (Below.heap_alloc _ _ _ hvw).trans hv
        simp only [World.cell?, hW, hb]
        exact hj) (by rw [hlms, hRs]; omega) (flatW_one _)
    rw [hlms, hC1] at this
    exact this
  have hg1 : ((w.alloc (.cells R 42)).setRow N C1).heap[N]? = some (.cells C1 42 (0, 0)) := setRow_heap _ N R C1 _ _ hgN
  have hcpB : ∀ (W : World), W.heap = ((w.alloc (.cells R 42)).setRow N C1).heap → ∀ ty dc sc, (Builtin.copy_ #[22, 22] ty #[.slice (some ⟨N, (i + m) * 3, none⟩) (n + m - (i + m)) dc, .slice (some ⟨g, i * 3, none⟩) (n - i) sc]).run Try.prog W = .ok (goInt (Nat.min (n - i) (n + m - (i + m)) : Nat)) (W.setRow N C2) := fun W hW ty dc sc => by
    have := run_copy_rows (P := Try.prog) W 22 22 ty 42 N ((i + m) * 3) (n + m - (i + m)) dc ⟨g, i * 3, none⟩ (n - i) sc 3 C1 42 (flatW (l.drop i)) Try.underlying22 size_row (by rw [hW]; exact hg1)
      (by rw [hlen]; simp only [Nat.min_def]; split <;> omega) (fun j v hj => by
        have hj' : ((flatW l).drop (i * 3))[j]? = some v := by
          show (List.drop (i * 3) (flat3 pV qV nV l))[j]? = some v
          rw [flat3_drop]; exact hj
        rw [List.getElem?_drop] at hj'
        rw [Addr.add_lit]
        have hb : ((w.alloc (.cells R 42)).setRow N C1).heap[g]? = w.heap[g]? := (setRow_other _ _ _ _ (by omega)).trans (Below.heap_alloc _ _ _ hgw)
        have := hcells hj'
        simp only [World.cell?, hW, hb] at this ⊢
        exact this) (by rw [hlen, s1, hRs]; omega) (flatW_one _)
    rw [hlen, hC2] at this
    exact this
  have HF : Hid (∀ W : World, W.heap = ((w.alloc (.cells R 42)).setRow N C1).heap → W.os = w.os → W.tape = w.tape → W.output = w.output → Ins w base (l.take i ++ ms ++ l.drop i) (.returned (.slice (some ⟨N, 0, none⟩) (n + m) G)) (W.setRow N C2)) := Lib.hid fun W hW h1 h2 h3 => by
    have hlr : (l.take i ++ ms ++ l.drop i).length = n + m := by simp only [List.length_append, List.length_take, List.length_drop, hn, hml]; omega
    refine ⟨_, rfl, ⟨flat3_length _, .inr ⟨N, G, C2, by rw [hlr], by omega, setRow_heap W N C1 C2 _ _ (by rw [hW]; exact hg1), by rw [hlr]; exact hGn, hGm, by rw [s2, hRs], ?_⟩⟩, ?_⟩
    · rw [hlr]; rw [hn] at s3; exact s3
    · refine ⟨h1, h2, h3, ?_, fun k hk => ?_⟩
      · rw [setRow_size, hW, setRow_size]; simp
      · rw [setRow_other _ _ _ _ (by omega), hW, setRow_other _ _ _ _ (by omega)]; exact Below.heap_alloc _ _ _ (by omega)
  have HCA := Lib.hid (hcpA (w.alloc (.cells R 42)).drew rfl)
  have HCB := Lib.hid (hcpB ((w.alloc (.cells R 42)).drew.setRow N C1).drew rfl)
  have HRZ := Lib.hid hrz
  have hz1 : ¬ ((m : Int) = 0) := by omega
  have hz2 : ¬ ((i : Int) = (n : Int)) := by omega
  have hz3 : (cap : Int) < (n : Int) + (m : Int) := by omega
  have hw1 : IntKind.i64.wrap ((i : Int) + (m : Int)) = (i : Int) + (m : Int) := by rw [IntKind.wrap_i64]; omega
  have hw2 : IntKind.i64.wrap ((n : Int) + (m : Int)) = (n : Int) + (m : Int) := by rw [IntKind.wrap_i64]; omega
  have hw3 : IntKind.i64.wrap ((n : Int) + (m : Int) - (i : Int)) = (n : Int) + (m : Int) - (i : Int) := by rw [IntKind.wrap_i64]; omega
  have hb1 : (0 : Int) ≤ (i : Int) + (m : Int) := by omega
  have hin : i ≤ n := by omega
  have htn : ((i : Int) + (m : Int)).toNat = i + m := by omega
  have hb3 : (i : Int) ≤ (n : Int) := by omega
  have hc63 : cap ≤ 9223372036854775807 := by simp only [maxLen] at hcm; exact hcm
  have hG63 : G ≤ 9223372036854775807 := by simp only [maxLen] at hGm; exact hGm
  have hGi : ¬ (G = i) := by omega
  have hGim : ¬ (G = i + m) := by omega
  have hci : ¬ (cap = i) := by omega
  clear hcpA hcpB hrz hg1 hgN s1 s2 s3 hC1 hC1l hC2 hC2l hR hRl hRs hRt hZ hZ3 hG hGm hold hlen hlms htk hkk hik hcs ht hcm hcells h hn hml hv hvc hg hbg hgw hvw hi0 hz0 hzs hzb
  go_enter Try.func22, Try.ntmps22
  have hca := HCA.out
  go_wp2_with (at_builtin; refine Lib.wpList_append_run _ rfl _ _ _ _ rfl _ _ rfl rfl _ _ (HRZ.out _) ?_)
  have mixed : Try.prog.follows .mixedOrders = true := by kernel_rfl
  go_region_law_o (refine step_copy_runI rfl _ _ 22 22 rfl (.slice (some ⟨N, (i + m) * 3, none⟩) (n + m - (i + m)) (G - (i + m))) (.slice (some ⟨g, i * 3, none⟩) (n - i) (cap - i)) (by simp [Act.eval, Act.put]) (by simp [Act.eval, Act.put]) (HCB.out _ _ _) ?_)
  go_wp2_with fail
  go_ret
  exact HF.out _ rfl rfl rfl rfl

theorem three_of_block {W : World} {b vc : Nat} {ms : List Rw} {cur : Array Value} {T : TypeId} (hv : W.heap[b]? = some (.cells cur T (0, 0))) (hvc : cur.toList = flatW ms) (hc : ms.length ≤ vc) : ThreeAt pV qV nV (fun k => k = b) W (.slice (some ⟨b, 0, none⟩) ms.length vc) ms := by
  refine ⟨_, vc, rfl, hc, (fun h => by cases h), fun _ => ⟨b, 0, rfl, rfl, fun j x hx => ?_⟩⟩
  obtain ⟨g0, g1, g2⟩ := flat3_get (f := pV) (g := qV) (h := nV) hx
  have e : ∀ k : Nat, W.cell? ⟨b, k, none⟩ = (flatW ms)[k]? := fun k => by
    simp only [World.cell?, hv]
    rw [← hvc, Array.getElem?_toList]
    rfl
  rw [Nat.zero_add]
  exact ⟨(e _).trans g0, (e _).trans g1, (e _).trans g2⟩

set_option maxRecDepth 1000000 in
set_option maxHeartbeats 4000000 in
theorem insert_end (w : World) (base n bv m vc : Nat) (v : Value) (l ms : List Rw) (vcur : Array Value) (h : OwnW w base v l) (hn : l.length = n) (hm : 0 < m) (hml : ms.length = m) (hvl : m ≤ vc) (hbase : base ≤ w.heap.size) (hbig : (n + m) * 24 ≤ 140737488355328)
    (hv : w.heap[bv]? = some (.cells vcur 42 (0, 0))) (hvc : vcur.toList = flatW ms) :
    Calls Try.prog 22 #[v, .int .i64 (n : Nat), .slice (some ⟨bv, 0, none⟩) m vc] w (Ins w base (l ++ ms)) := by
  obtain ⟨i0, hi0, hz0, hzs, hzb⟩ := info_parts info_row
  have hT := three_of_block hv hvc (by rw [hml]; exact hvl)
  rw [hml] at hT
  obtain ⟨v', W', hrun, hO, hG, _⟩ := OwnThree.appendAt (P := Try.prog) 22 (fun _ => rfl) (fun _ => rfl) (fun _ => rfl) Try.underlying22 hi0 hz0 hzs hzb rfl h hbase hT (by simp only [maxLen]; omega) (by rw [hn, hml]; exact hbig)
  obtain ⟨A, cap, rfl, hnc⟩ := h.form
  rw [hn] at hrun hnc ⊢
  have HF : Hid (Ins w base (l ++ ms) (.returned v') W') := Lib.hid ⟨v', rfl, hO, (Below.refl base w).grown hG hbase (fun k hk => (h.own hk).1)⟩
  have HR := Lib.hid hrun
  have hz1 : ¬ ((m : Int) = 0) := by omega
  have hcm : cap ≤ 9223372036854775807 := by
    rcases h.2 with ⟨h1, _⟩ | ⟨g', cap', cur, h1, _, _, _, h2, _⟩
    · simp only [Value.slice.injEq] at h1
      omega
    · simp only [Value.slice.injEq] at h1
      simp only [maxLen] at h2
      omega
  have hnone : A = none → cap = 0 := fun hA => by
    rcases h.2 with ⟨h1, _⟩ | ⟨g', cap', cur, h1, _⟩
    · simp only [Value.slice.injEq] at h1
      exact h1.2.2
    · simp only [Value.slice.injEq] at h1
      rw [hA] at h1
      cases h1.1
  clear hrun hO hG hT hvc hv h hn hml
  go_enter Try.func22, Try.ntmps22
  cases A with
  | none =>
    obtain rfl : cap = 0 := hnone rfl
    obtain rfl : n = 0 := by omega
    go_wp2_with (at_builtin; refine wpList_append_ran rfl _ _ _ rfl rfl rfl HR.out ?_)
    go_ret
    exact HF.out
  | some a =>
    obtain ⟨ab, ao, asp⟩ := a
    go_wp2_with (at_builtin; refine wpList_append_ran rfl _ _ _ rfl rfl rfl HR.out ?_)
    all_goals go_ret
    all_goals exact HF.out

theorem insert_calls (w : World) (base i bv m vc : Nat) (v : Value) (l ms : List Rw) (vcur : Array Value) (h : OwnW w base v l) (hi : i ≤ l.length) (hm : 0 < m) (hml : ms.length = m) (hvl : m ≤ vc) (hbase : base ≤ w.heap.size) (hbig : (l.length + m) * 24 ≤ 140737488355328)
    (hv : w.heap[bv]? = some (.cells vcur 42 (0, 0))) (hvc : vcur.toList = flatW ms) (hne : v.ownBlock ≠ some bv) :
    Calls Try.prog 22 #[v, .int .i64 (i : Nat), .slice (some ⟨bv, 0, none⟩) m vc] w (Ins w base (l.take i ++ ms ++ l.drop i)) := by
  rcases Nat.lt_or_ge i l.length with hlt | hge
  · rcases h.2 with ⟨_, h0⟩ | ⟨g, cap, cur, rfl, hrest⟩
    · omega
    · have hne' : bv ≠ g := fun e => hne (by rw [e]; rfl)
      rcases Nat.lt_or_ge cap (l.length + m) with hr | hr
      · exact insert_grow w base g l.length cap i bv m vc l ms vcur h rfl hlt hm hml hr hbase hbig hv hvc
      · exact insert_shift w base g l.length cap i bv m vc l ms vcur h rfl hlt hm hml hr hv hvc hne'
  · obtain rfl : i = l.length := by omega
    rw [List.take_of_length_le (Nat.le_refl _), List.drop_of_length_le (Nat.le_refl _), List.append_nil]
    exact insert_end w base l.length bv m vc v l ms vcur h rfl hm hml hvl hbase hbig hv hvc

end Go.Proofs.Ytlcmnemneghohaa.Dedup
