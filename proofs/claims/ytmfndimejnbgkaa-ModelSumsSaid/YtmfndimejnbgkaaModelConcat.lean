/-
  Contracts of slices.Grow at nil and slices.Concat at two rows of pairs; of the model's Empty.
-/
import Derived.Test.YtmfndimejnbgkaaModelState
import Derived.Shelf.Spec.SlicesGrow
import Derived.Ground.Names8Prog
import Derived.Test.YtmfndimejnbgkaaModelLayG
namespace Go.Proofs.Ytmfndimejnbgkaa.Model
open Go Go.RowKit Go.Lib Go.Sort Go.Shelf Go.Maps Go.Proofs.Ytmfndimejnbgkaa.Law Go.Proofs.Ytmfndimejnbgkaa.Graph Go.Proofs.Ytmfndimejnbgkaa.Fold

theorem growP_calls (n : Nat) (hn : n * 24 ≤ 140737488355328) (w : World) :
    Calls Try.prog 110 #[.slice none 0 0, .int .i64 (n : Nat)] w (RetP [] w) := by
  obtain ⟨i0, hi, hz0, hz1, hz2⟩ := info_parts info_pair
  by_cases h0 : n = 0
  · subst h0
    have h := Any8.slices_Grow_room Try.growP none 0 0 0 w (Nat.le_refl _) (by omega) (by omega) (by omega)
    change Calls Try.prog 110 _ _ _ at h
    refine h.mono ?_
    rintro e w' ⟨rfl, rfl⟩
    exact ⟨_, rfl, OwnTwo.nil _ _ _, Below.refl _ _⟩
  · have h := Any8.slices_Grow_grow Try.growP i0 _ hi hz0 (by omega) none 0 0 n [] w (Nat.le_refl _) (by omega) (by rw [hz2]; omega) (by omega) (by simp) (fun _ => rfl) (fun a e => by cases e)
    change Calls Try.prog 110 _ _ _ at h
    refine h.mono ?_
    rintro e w' ⟨rfl, rfl⟩
    have hge := grownCap_ge w (0 + n) 0 47
    have hle := grownCap_le_maxLen w (0 + n) 0 47 (by simp only [maxLen]; omega)
    change RetP [] w (.returned (.slice (some ⟨w.heap.size, 0, none⟩) 0 (grownCap w (0 + n) 0 47))) (w.drew.alloc (.cells (([] : List Value).toArray ++ Builtin.zeroCells (Value.agg #[Value.string ⟨#[]⟩, Value.int .u32 0]).cells (0 + n - 0) ++ Builtin.zeroCells (Value.agg #[Value.string ⟨#[]⟩, Value.int .u32 0]).cells (grownCap w (0 + n) 0 47 - (0 + n))) 47))
    revert hge hle
    generalize grownCap w (0 + n) 0 47 = c
    intro hge hle
    refine ⟨_, rfl, ⟨rfl, .inr ⟨w.heap.size, c, _, rfl, Nat.le_refl _, heap_alloc_new w.drew _, Nat.zero_le _, hle, ?_, by simp [flat2]⟩⟩, (Below.refl w.heap.size w).drew.alloc (Nat.le_refl _) _⟩
    have e2 : (Value.agg #[Value.string ⟨#[]⟩, Value.int .u32 0]).cells.size = 2 := rfl
    simp only [Array.size_append, List.size_toArray, List.length_nil, size_zeroCells, e2]
    omega

/-- Pairs of whatever old row behind a row of the call's own. -/
theorem OwnP.join {w : World} {base : Nat} {v sv : Value} {l m : List Pr} (h : OwnP w base v l) (hbase : base ≤ w.heap.size) (hs : OldP w.heap.size w sv m) (ty : TypeId) (hroom : (l.length + m.length) * 24 ≤ 140737488355328) :
    ∃ A c W', (Builtin.append_ #[41, 41] ty #[v, sv]).run Try.prog w = .ok (.slice A (l.length + m.length) c) W' ∧ OwnP W' base (.slice A (l.length + m.length) c) (l ++ m) ∧ w.grownBy W' v.ownBlock := by
  obtain ⟨i0, hi, hz0, hz1, hz2⟩ := info_parts info_pair
  obtain ⟨v', W', hrun, h2, h3, _⟩ := OwnTwo.appendAt (P := Try.prog) (t := 41) ty pk_one pv_one Try.underlying41 hi hz0 hz1 hz2 (by decide) h hbase hs (by simp only [maxLen]; omega) hroom
  obtain ⟨A, c, rfl, hc⟩ := h2.form
  rw [List.length_append] at hrun h2 hc
  exact ⟨A, c, W', hrun, h2, h3⟩

set_option maxRecDepth 100000 in
set_option maxHeartbeats 4000000 in
theorem concat_calls (b : Nat) (T : TypeId) (fr : Nat × Nat) (v1 v2 : Value) (l m : List Pr) (hl : (l.length + m.length) * 24 ≤ 140737488355328) (w : World) (hb : w.heap[b]? = some (.cells #[v1, v2] T fr)) (h1 : OldP w.heap.size w v1 l) (h2 : OldP w.heap.size w v2 m) :
    Calls Try.prog 64 #[.slice (some ⟨b, 0, none⟩) 2 2] w (RetP (l ++ m) w) := by
  obtain ⟨A1, k1, rfl, _⟩ := h1.form
  obtain ⟨A2, k2, rfl, _⟩ := h2.form
  obtain ⟨n1, hn1⟩ : ∃ n1, l.length = n1 := ⟨_, rfl⟩
  obtain ⟨n2, hn2⟩ : ∃ n2, m.length = n2 := ⟨_, rfl⟩
  rw [hn1] at h1 hb hl
  rw [hn2] at h2 hb hl
  have c0 : w.cell? ⟨b, 0, none⟩ = some (.slice A1 n1 k1) := by simp [World.cell?, hb]
  have c1 : w.cell? ⟨b, 1, none⟩ = some (.slice A2 n2 k2) := by simp [World.cell?, hb]
  have hbl := lt_of_some hb
  have cg := growP_calls (n1 + n2) (by omega) w
  rw [Int.natCast_add] at cg
  have CG := Lib.hid cg
  have HB := Lib.hid hb
  have H1 := Lib.hid h1
  have H2 := Lib.hid h2
  have HN1 := Lib.hid hn1
  have HN2 := Lib.hid hn2
  have HL := Lib.hid hl
  have e1 : IntKind.i64.wrap (0 + (n1 : Int)) = (n1 : Int) := by rw [IntWalk.i64_in _ (by omega)]; omega
  have e2 : IntKind.i64.wrap ((n1 : Int) + (n2 : Int)) = ((n1 + n2 : Nat) : Int) := by rw [IntWalk.i64_in _ (by omega)]; omega
  have p1 : ¬ ((n1 : Int) < 0) := by omega
  have p2 : ¬ (((n1 + n2 : Nat) : Int) < 0) := by omega
  have hnn1 : n1 ≤ 5864062014805 := by omega
  have hnn2 : n2 ≤ 5864062014805 := by omega
  clear h1 h2 hb hn1 hn2 cg
  go_enter Try.func64, Try.ntmps64
  go_wp2_with fail
  refine wp_loop_rounds 3 ?_
  rw [rounds_succ]
  go_wp2_with fail
  rw [rounds_succ]
  go_wp2_with fail
  rw [rounds_succ]
  go_wp2_with fail
  refine CG.out.mono ?_
  rintro e w1 ⟨v0, rfl, hO0, hB0⟩
  obtain ⟨A3, k3, W3, R3, O3, G3⟩ := hO0.join hB0.size (TwoAt.on hB0 H1.out) 41 (by rw [HN1.out]; simp; omega)
  have hB3 := grown_below hB0 G3 hO0 (Nat.le_refl _) hB0.size
  obtain ⟨A4, k4, W4, R4, O4, G4⟩ := O3.join hB3.size (TwoAt.on hB3 H2.out) 41 (by rw [List.nil_append, HN1.out, HN2.out]; exact HL.out)
  have hB4 := grown_below hB3 G4 O3 (Nat.le_refl _) hB3.size
  rw [List.nil_append] at O3 O4
  simp only [List.nil_append, List.length_nil, Nat.zero_add, HN1.out, HN2.out] at R3 R4 O4 O3
  have HR3 := Lib.hid R3
  have HR4 := Lib.hid R4
  have HF : Hid (RetP (l ++ m) w (.returned (.slice A4 (n1 + n2) k4)) W4) := Lib.hid ⟨_, rfl, O4, hB4⟩
  have d0 : w1.cell? ⟨b, 0, none⟩ = some (.slice A1 n1 k1) := (World.cell?_of_block (hB0.block b hbl)).trans c0
  have d1 : W3.cell? ⟨b, 1, none⟩ = some (.slice A2 n2 k2) := (World.cell?_of_block (hB3.block b hbl)).trans c1
  obtain ⟨A0, k0, rfl, _⟩ := hO0.form
  clear hO0 hB0 R3 O3 G3 hB3 R4 O4 G4 hB4 CG
  go_wp2_with fail
  refine wp_loop_rounds 3 ?_
  rw [rounds_succ]
  go_wp2_with (at_builtin; refine wpList_append_ran rfl _ _ _ rfl rfl rfl HR3.out ?_)
  rw [rounds_succ]
  go_wp2_with (at_builtin; refine wpList_append_ran rfl _ _ _ rfl rfl rfl HR4.out ?_)
  rw [rounds_succ]
  go_wp2_with fail
  go_ret
  exact HF.out

/-- Rows of rows of pairs, all of them in blocks of the call's own. -/
def FoldsOwn (W : World) (base : Nat) (v : Value) (ll : List (List Pr)) : Prop :=
  ∃ us : List Value, us.length = ll.length ∧ OwnRow id 41 W base v us ∧ ∀ (j : Nat) (u : Value) (p : List Pr), us[j]? = some u → ll[j]? = some p → OwnP W base u p
theorem FoldsOwn.keep {W W' : World} {base : Nat} {v : Value} {ll : List (List Pr)} (h : FoldsOwn W base v ll) (hb : ∀ k, base ≤ k → k < W.heap.size → W'.heap[k]? = W.heap[k]?) : FoldsOwn W' base v ll := by
  obtain ⟨us, h1, h2, h3⟩ := h
  exact ⟨us, h1, h2.keep fun g hg => hb g (h2.own hg).1 (h2.own hg).2, fun j u p hu hp => (h3 j u p hu hp).keep fun g hg => hb g ((h3 j u p hu hp).own hg).1 ((h3 j u p hu hp).own hg).2⟩
theorem FoldsOwn.below {W W' : World} {base : Nat} {v : Value} {ll : List (List Pr)} (h : FoldsOwn W base v ll) (hB : Below W.heap.size W W') : FoldsOwn W' base v ll := h.keep fun k _ hk => hB.block k hk
theorem FoldsOwn.form {W : World} {base : Nat} {v : Value} {ll : List (List Pr)} (h : FoldsOwn W base v ll) : ∃ A cap, v = .slice A ll.length cap ∧ ll.length ≤ cap := by
  obtain ⟨us, h1, h2, _⟩ := h
  obtain ⟨A, cap, h3, h4⟩ := h2.form
  exact ⟨A, cap, by rw [h3, h1], by rw [← h1]; exact h4⟩
theorem FoldsOwn.folds {W : World} {base : Nat} {v : Value} {ll : List (List Pr)} (h : FoldsOwn W base v ll) : FoldsAt (fun k => base ≤ k ∧ k < W.heap.size) W v ll := by
  obtain ⟨us, h1, h2, h3⟩ := h
  obtain ⟨A, cap, h4, h5, h6, h7⟩ := h2.row
  refine ⟨A, cap, by rw [h4, h1], by omega, h6, fun hp => ?_⟩
  obtain ⟨b, off, e, hS, hc⟩ := h7 (by omega)
  refine ⟨b, off, e, hS, fun j p hj => ?_⟩
  have hjl : j < us.length := by have := (List.getElem?_eq_some_iff.1 hj).1; omega
  exact ⟨us[j], hc j _ (List.getElem?_eq_getElem hjl), (h3 j _ p (List.getElem?_eq_getElem hjl) hj).two⟩
theorem FoldsOwn.old {W : World} {base : Nat} {v : Value} {ll : List (List Pr)} (h : FoldsOwn W base v ll) : OldF W.heap.size W v ll := h.folds.mono fun _ hk => hk.2
theorem OwnRow.base {α : Type} {f : α → Value} {e : TypeId} {W : World} {base base' : Nat} {v : Value} {l : List α} (h : OwnRow f e W base v l) (hb : base' ≤ base) : OwnRow f e W base' v l := by
  refine ⟨h.1, ?_⟩
  rcases h.2 with h0 | ⟨b, cap, cur, h1, h2, h3⟩
  · exact .inl h0
  · exact .inr ⟨b, cap, cur, h1, Nat.le_trans hb h2, h3⟩
theorem FoldsOwn.base {W : World} {base base' : Nat} {v : Value} {ll : List (List Pr)} (h : FoldsOwn W base v ll) (hb : base' ≤ base) : FoldsOwn W base' v ll := by
  obtain ⟨us, h1, h2, h3⟩ := h
  exact ⟨us, h1, OwnRow.base h2 hb, fun j u p hu hp => (h3 j u p hu hp).base hb⟩
/-- A row of pairs is no row of rows. -/
theorem OwnP.apart {W : World} {base base' : Nat} {u v : Value} {p : List Pr} {us : List Value} (h : OwnP W base u p) (h2 : OwnRow id 41 W base' v us) {g : Nat} (hg : v.ownBlock = some g) : u.ownBlock ≠ some g := by
  intro e
  rcases h.2 with ⟨h0, _⟩ | ⟨g1, c1, cur1, h0, _, hb1, _⟩
  · rw [h0] at e; cases e
  · rw [h0] at e
    obtain rfl : g1 = g := by simpa [Value.ownBlock] using e
    rcases h2.2 with ⟨h3, _⟩ | ⟨g2, c2, cur2, h3, _, hb2, _⟩
    · rw [h3] at hg; cases hg
    · rw [h3] at hg
      obtain rfl : g2 = g1 := by simpa [Value.ownBlock] using hg
      rw [hb1] at hb2
      simp at hb2
/-- One list is put in. -/
theorem FoldsOwn.store {W : World} {base g len cap : Nat} {ll : List (List Pr)} (h : FoldsOwn W base (.slice (some ⟨g, 0, none⟩) len cap) ll) (j : Nat) {u : Value} {p : List Pr} (hu : OwnP W base u p) :
    FoldsOwn (W.setCell ⟨g, j, none⟩ u) base (.slice (some ⟨g, 0, none⟩) len cap) (ll.set j p) ∧ W.grownBy (W.setCell ⟨g, j, none⟩ u) (some g) := by
  obtain ⟨us, h1, h2, h3⟩ := h
  obtain ⟨h4, h5⟩ := OwnRow.store h2 j u
  refine ⟨⟨us.set j u, by rw [List.length_set, List.length_set, h1], h4, fun i v q hv hq => ?_⟩, h5⟩
  have keep : ∀ {w : Value} {r : List Pr}, OwnP W base w r → OwnP (W.setCell ⟨g, j, none⟩ u) base w r := fun {w r} hw => hw.keep fun k hk => h5.block k (hw.own hk).2 (fun e => OwnP.apart hw h2 (g := g) rfl (by rw [hk, Option.some.inj e]))
  rw [List.getElem?_set] at hv hq
  by_cases hij : j = i
  · subst hij
    rw [if_pos rfl] at hv hq
    split at hv
    · split at hq
      · obtain rfl := Option.some.inj hv
        obtain rfl := Option.some.inj hq
        exact keep hu
      · cases hq
    · cases hv
  · rw [if_neg hij] at hv hq
    exact keep (h3 i v q hv hq)

theorem info_pairs : (Try.prog.info? 41).map (fun i => (i.zero, i.size, i.bytes)) = some (some (.slice none 0 0), 1, 24) := by kernel_rfl
/-- An empty state's lists. -/
def RetE (n : Nat) (w : World) (e : Ending) (W : World) : Prop := ∃ g, e = .returned (.agg #[.slice (some ⟨g, 0, none⟩) n n]) ∧ FoldsOwn W w.heap.size (.slice (some ⟨g, 0, none⟩) n n) (List.replicate n []) ∧ Below w.heap.size w W

set_option maxRecDepth 100000 in
set_option maxHeartbeats 1000000 in
theorem empty_calls (A : Option Addr) (n cap : Nat) (hn : n * 24 ≤ 140737488355328) (w : World) : Calls Try.prog 11 #[.agg #[.slice A n cap]] w (RetE n w) := by
  obtain ⟨i0, hi, hz0, hz1, hz2⟩ := info_parts info_pairs
  obtain ⟨q, hq⟩ : ∃ q, w.heap.size = q := ⟨_, rfl⟩
  obtain ⟨W1, hW1⟩ : ∃ W1, (w.alloc (gObj (.slice A n cap))).alloc (sObj (.slice none 0 0)) = W1 := ⟨_, rfl⟩
  have hB1 : Below q w W1 := by rw [← hW1, ← hq]; exact ((Below.refl _ _).alloc (Nat.le_refl _) _).alloc (by simp) _
  have hg1 : W1.heap[q]? = some (gObj (.slice A n cap)) := by rw [← hW1, ← hq]; exact (Below.heap_alloc _ _ _ (by simp)).trans (heap_alloc_new w _)
  have hs1 : W1.heap[q + 1]? = some (sObj (.slice none 0 0)) := by
    rw [← hW1, ← hq]
    have := heap_alloc_new (w.alloc (gObj (.slice A n cap))) (sObj (.slice none 0 0))
    rwa [World.size_alloc] at this
  have hz1' : W1.heap.size = q + 2 := by rw [← hW1, ← hq]; simp
  obtain ⟨c0, _⟩ := box1 hg1
  obtain ⟨W2, hmk, hO, hG⟩ := run_make_full W1 q 31 41 i0 _ 1 Try.underlying31 hi hz0 hz1 .i64 .i64 n (by rw [hz2]; omega) (by simp only [maxLen]; omega) (by omega)
  rw [show (Value.slice none 0 0).cells = #[.slice none 0 0] from rfl, Nat.mul_one, toList_madeCells_one] at hO
  have hO2 : OwnRow id 41 W2 q (.slice (some ⟨W1.heap.size, 0, none⟩) n n) (List.replicate n (.slice none 0 0)) := by
    unfold OwnRow
    rw [List.length_replicate, List.map_id]
    exact hO
  have hF : FoldsOwn W2 q (.slice (some ⟨W1.heap.size, 0, none⟩) n n) (List.replicate n []) := ⟨_, by simp, hO2, fun j u p hu hp => by
    rw [List.getElem?_replicate] at hu hp
    by_cases hj : j < n
    · rw [if_pos hj] at hu hp
      rw [← Option.some.inj hu, ← Option.some.inj hp]
      exact OwnTwo.nil _ _ _
    · rw [if_neg hj] at hu; cases hu⟩
  have hs2 : W2.heap[q + 1]? = some (sObj (.slice none 0 0)) := (hG.block _ (lt_of_some hs1) (by simp)).trans hs1
  obtain ⟨W3, hW3⟩ : ∃ W3, W2.setCell ⟨q + 1, 0, none⟩ (.slice (some ⟨W1.heap.size, 0, none⟩) n n) = W3 := ⟨_, rfl⟩
  have hG3 : W2.grownBy W3 (some (q + 1)) := by rw [← hW3]; exact grownBy_setCell' _ _ _
  have hF3 : FoldsOwn W3 q (.slice (some ⟨W1.heap.size, 0, none⟩) n n) (List.replicate n []) := by
    obtain ⟨us, h1, h2, h3⟩ := hF
    have k1 : (Value.slice (some ⟨W1.heap.size, 0, none⟩) n n).ownBlock = some W1.heap.size := rfl
    refine ⟨us, h1, h2.keep fun g hg => hG3.block g (h2.own hg).2 (fun e => ?_), fun j u p hu hp => (h3 j u p hu hp).keep fun g hg => hG3.block g ((h3 j u p hu hp).own hg).2 (fun e => ?_)⟩
    · rw [k1] at hg
      have := Option.some.inj hg
      have := Option.some.inj e
      omega
    · rcases (h3 j u p hu hp).2 with ⟨h0, _⟩ | ⟨g1, _, _, h0, _, hb1, _⟩
      · rw [h0] at hg; cases hg
      · rw [h0] at hg
        obtain rfl : g1 = g := by simpa [Value.ownBlock] using hg
        obtain rfl := Option.some.inj e
        rw [hs2] at hb1
        simp at hb1
  have hb3 : W3.heap[q + 1]? = some (sObj (.slice (some ⟨W1.heap.size, 0, none⟩) n n)) := by rw [← hW3]; exact stored1 hs2 _
  obtain ⟨_, f2⟩ := box1 hs2
  obtain ⟨c3, _⟩ := box1 hb3
  have HF : Hid (RetE n w (.returned (.agg #[.slice (some ⟨W1.heap.size, 0, none⟩) n n])) W3) := Lib.hid ⟨_, rfl, by rw [hq]; exact hF3, by
    rw [hq]
    exact (hB1.grown hG (by omega) (fun j hj => by cases hj)).grown hG3 (by have := hG.size; omega) (fun j hj => by cases hj; omega)⟩
  have HW := Lib.hid hW1
  have HW3 := Lib.hid hW3
  have HMK := Lib.hid hmk
  have HQ := Lib.hid hq
  have HZ := Lib.hid hz1'
  clear hB1 hg1 hs1 hO hG hO2 hF hs2 hG3 hF3 hb3 hW1 hW3 hi hz0 hz1 hz2 hq hz1' hmk
  go_enter Try.func11, Try.ntmps11
  go_upto_region 1 with fail
  rw [HW.out, HQ.out]
  have hmk := HMK.out
  go_wp2_with fail
  rw [HW3.out]
  refine bodyPost_ret (v := .agg #[.slice (some ⟨W1.heap.size, 0, none⟩) n n]) (by simp [results, Try.results11, go_sem, c3]) rfl HF.out

end Go.Proofs.Ytmfndimejnbgkaa.Model
