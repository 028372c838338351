/-
  Contract of message. Contract of message for a record; of message for every entry in form.
-/
import Derived.Test.YtffehnojcajhiaaEgC
namespace Go.Proofs.Ytffehnojcajhiaa.Wire.Entry
open Go Go.RowKit Go.Proofs.Ytffehnojcajhiaa.Law

theorem noop_message (r : Rec) (u : Value) (n : Int) (w : World) : Calls Try.prog 18 #[entV ⟨0, r, [], n⟩ u] w (RetFresh w []) := by
  have HB : Hid (∀ o, Below w.heap.size w (w.alloc o)) := Lib.hid fun o => (Below.refl _ _).alloc (Nat.le_refl _) o
  go_enter Try.func18, Try.ntmps18
  go_wp2_with fail
  refine (int_calls 0 _).mono ?_
  rintro e w1 ⟨rfl, B1⟩
  rw [World.size_alloc] at B1
  have hs1 : w.heap.size < w1.heap.size := by have := B1.size; simp at this; omega
  have HB1 := Lib.hid ((HB.out (.cells #[.int .i64 0, .int .i64 r.p, .int .i64 r.q, .int .i64 r.a, .string r.key, .int .u32 (r.val : Nat), u, .int .i64 n] 29)).trans (B1.mono (Nat.le_succ _)))
  have hc : w1.cell? ⟨w.heap.size, 0, none⟩ = some (.int .i64 0) := (B1.cell (p := ⟨w.heap.size, 0, none⟩) (Nat.lt_succ_self _)).trans (cell_new _ _ _ _ _ rfl)
  clear B1
  go_wp2_with fail
  go_ret
  exact ⟨_, rfl, .nil none 0 _ (fun _ => rfl) rfl, HB1.out.alloc (by omega) _⟩

theorem pair_kids {S : Nat → Prop} {W : World} (a : Int) (x : Item) (v : Value) (h : Items S W v x.kids) : ∀ (j : Nat) (y : Item), [iI a, x][j]? = some y → Items S W (if j = 1 then v else .slice none 0 0) y.kids := by
  intro j y hy
  match j, hy with
  | 0, hy => simp at hy; subst hy; exact .nil none 0 _ (fun _ => rfl) rfl
  | 1, hy => simp at hy; subst hy; exact h
  | j + 2, hy => simp at hy

set_option maxRecDepth 100000 in
set_option maxHeartbeats 2000000 in
theorem num_message (k n : Int) (hk : k = 2 ∨ k = 4 ∨ k = 5) (r : Rec) (u : Value) (w : World) : Calls Try.prog 18 #[entV ⟨k, r, [], n⟩ u] w (RetFresh w [iI k, iI n]) := by
  have b0 : ((k : Int) == 0) = false := beq_eq_false_iff_ne.2 (by omega)
  have b1 : ((k : Int) == 1) = false := beq_eq_false_iff_ne.2 (by omega)
  have b3 : ((k : Int) == 3) = false := beq_eq_false_iff_ne.2 (by omega)
  clear hk
  have HB : Hid (∀ o, Below w.heap.size w (w.alloc o)) := Lib.hid fun o => (Below.refl _ _).alloc (Nat.le_refl _) o
  obtain ⟨b, hb⟩ : ∃ b, w.heap.size = b := ⟨_, rfl⟩
  have hE0 := EBox.new w ⟨k, r, [], n⟩ (u)
  have hs0 : (w.alloc (.cells #[.int .i64 k, .int .i64 r.p, .int .i64 r.q, .int .i64 r.a, .string r.key, .int .u32 (r.val : Nat), u, .int .i64 n] 29)).heap.size = b + 1 := by simp [hb]
  have HE0 := Lib.hid hE0
  have HS0 := Lib.hid hs0
  have HBB := Lib.hid hb
  clear hE0 hs0 hb
  go_enter Try.func18, Try.ntmps18
  go_wp2_with fail
  refine (int_calls k _).mono ?_
  rintro e w1 ⟨rfl, B1⟩
  have hs1 : b < w1.heap.size := by have := B1.size; rw [HS0.out] at this; omega
  have hE1 : EBox w1 b ⟨k, r, [], n⟩ (u) := by have := HE0.out.low B1; rwa [HBB.out] at this
  have hB1 : Below b w w1 := by
    have := (HB.out (.cells #[.int .i64 k, .int .i64 r.p, .int .i64 r.q, .int .i64 r.a, .string r.key, .int .u32 (r.val : Nat), u, .int .i64 n] 29)).trans (B1.mono (by rw [HS0.out, HBB.out]; omega))
    rwa [HBB.out] at this
  have hE2 := hE1.low ((Below.refl _ _).alloc (Nat.le_refl _) (.cells #[.int .i64 0, .int .i64 k, .string ⟨#[]⟩, .slice none 0 0] 71))
  have hI2 := heap_alloc_new w1 (.cells #[.int .i64 0, .int .i64 k, .string ⟨#[]⟩, .slice none 0 0] 71)
  have hB2 := hB1.alloc (Nat.le_of_lt hs1) (.cells #[.int .i64 0, .int .i64 k, .string ⟨#[]⟩, .slice none 0 0] 71)
  have hs2 : (w1.alloc (.cells #[.int .i64 0, .int .i64 k, .string ⟨#[]⟩, .slice none 0 0] 71)).heap.size = w1.heap.size + 1 := by simp
  have HE2 := Lib.hid hE2
  have HI2 := Lib.hid hI2
  have HB2 := Lib.hid hB2
  have HS2 := Lib.hid hs2
  have hc0 : w1.cell? ⟨b, 0, none⟩ = some (.int .i64 (k)) := hE1.cells.1
  clear B1 hE1 hB1 hE2 hI2 hB2 hs2 HE0 HS0
  rw [HBB.out]
  go_wp2_with fail
  have hE2 := HE2.out
  have hI2 := HI2.out
  have hB2 := HB2.out
  have hs2 := HS2.out
  clear HE2 HI2 HB2 HS2 hc0
  generalize (w1.alloc (.cells #[.int .i64 0, .int .i64 k, .string ⟨#[]⟩, .slice none 0 0] 71)) = w2 at hE2 hI2 hB2 hs2 ⊢
  obtain ⟨i, hi⟩ : ∃ i, w1.heap.size = i := ⟨_, rfl⟩
  rw [hi] at hI2 hs1 hs2 ⊢
  have HX : Hid (∀ W, Below w2.heap.size w2 W → EBox W b ⟨k, r, [], n⟩ u ∧ W.heap[i]? = some (.cells #[.int .i64 0, .int .i64 k, .string ⟨#[]⟩, .slice none 0 0] 71)) := Lib.hid fun W hW => ⟨hE2.low hW, (hW.block i (by omega)).trans hI2⟩
  have HC : Hid (∀ n W, Calls Try.prog 32 #[.int .i64 n] W fun e W' => e = .returned (.agg #[.int .i64 0, .int .i64 n, .string ⟨#[]⟩, .slice none 0 0]) ∧ Below W.heap.size W W') := Lib.hid fun n W => int_calls n W
  have HB2 := Lib.hid hB2
  have hs3 : b + 2 ≤ w2.heap.size := by omega
  clear hE2 hI2 hB2 hs2 hi
  refine wp_region_noPanic ?_
  refine wp_region_held_tail (C := fun w' => Below w2.heap.size w2 w') [0, 1, 2] [3, 4, 5] 5 (by kernel_rfl) (by kernel_rfl) (fun _ _ _ _ _ h => h) ?_ ?_
  · exact (Below.refl _ _).drew
  iterate 3
    refine heldI_step (v := ?_) rfl (by rfl) (fun w' hw' => ?_) ?_
    rotate_left
    · obtain ⟨hx1, hx2⟩ := HX.out w' hw'
      obtain ⟨k0, k1, k2, k3, k4, k5, k6, k7⟩ := hx1.cells
      obtain ⟨⟨m0, m1, m2, m3⟩, _⟩ := box4_cells hx2
      simp only at k0 k1 k2 k3 k4 k5 k6 k7
      clear hx1 hx2
      go_simp
      all_goals with_reducible rfl
    simp only [Act.put, List.getElem_toArray, List.getElem_cons_succ, List.getElem_cons_zero, List.setIfInBounds_toArray, List.set_cons_succ, List.set_cons_zero]
  refine heldI_nil ?_
  clear HX
  refine seqI_step rfl ?_
  go_wp2_with (go_at_call 32; ((with_reducible refine (HC.out _ _).mono ?_); rintro e W1 ⟨rfl, B1⟩; have T1 := (Below.refl w2.heap.size w2).drew.trans (B1.mono (Nat.le_refl _))))
  refine ⟨T1, ?_⟩
  have s1 := T1.size
  have H1 := Lib.hid T1
  clear B1 T1 HC
  refine seqI_step rfl ?_
  go_wp2_with fail
  refine ⟨H1.out.alloc s1 _, ?_⟩
  refine seqI_last rfl ?_
  go_wp2_with fail
  refine NoPanic.normal ?_
  go_wp2_with fail
  go_ret
  have hB : Below w.heap.size w W1 := by rw [HBB.out]; exact HB2.out.trans (H1.out.mono (by omega))
  refine ⟨_, rfl, ?_, hB.alloc hB.size _⟩
  have hz := hB.size
  exact lit_items W1 [iI k, iI n] (fun j => if j = 1 then .slice none 0 0 else .slice none 0 0) _ 2 W1.heap.size rfl rfl rfl ⟨hz, by simp⟩ (pair_kids k (iI n) _ (.nil none 0 _ (fun _ => rfl) rfl))

set_option maxRecDepth 100000 in
set_option maxHeartbeats 2000000 in
theorem deploy_message (ops : List Opr) (hw : ∀ x ∈ ops, x.wf) (hg : goodOps ops) (r : Rec) (n : Int) (u : Value) (w : World) (h : OldO w.heap.size w u ops) : Calls Try.prog 18 #[entV ⟨3, r, ops, n⟩ u] w (RetFresh w [iI 3, iL (opsL ops)]) := by
  have HO := Lib.hid h
  have HW := Lib.hid hw
  have HGG := Lib.hid hg
  clear h hw hg
  have HB : Hid (∀ o, Below w.heap.size w (w.alloc o)) := Lib.hid fun o => (Below.refl _ _).alloc (Nat.le_refl _) o
  obtain ⟨b, hb⟩ : ∃ b, w.heap.size = b := ⟨_, rfl⟩
  have hE0 := EBox.new w ⟨3, r, ops, n⟩ (u)
  have hs0 : (w.alloc (.cells #[.int .i64 3, .int .i64 r.p, .int .i64 r.q, .int .i64 r.a, .string r.key, .int .u32 (r.val : Nat), u, .int .i64 n] 29)).heap.size = b + 1 := by simp [hb]
  have HE0 := Lib.hid hE0
  have HS0 := Lib.hid hs0
  have HBB := Lib.hid hb
  clear hE0 hs0 hb
  go_enter Try.func18, Try.ntmps18
  go_wp2_with fail
  refine (int_calls 3 _).mono ?_
  rintro e w1 ⟨rfl, B1⟩
  have hs1 : b < w1.heap.size := by have := B1.size; rw [HS0.out] at this; omega
  have hE1 : EBox w1 b ⟨3, r, ops, n⟩ (u) := by have := HE0.out.low B1; rwa [HBB.out] at this
  have hB1 : Below b w w1 := by
    have := (HB.out (.cells #[.int .i64 3, .int .i64 r.p, .int .i64 r.q, .int .i64 r.a, .string r.key, .int .u32 (r.val : Nat), u, .int .i64 n] 29)).trans (B1.mono (by rw [HS0.out, HBB.out]; omega))
    rwa [HBB.out] at this
  have hE2 := hE1.low ((Below.refl _ _).alloc (Nat.le_refl _) (.cells #[.int .i64 0, .int .i64 3, .string ⟨#[]⟩, .slice none 0 0] 71))
  have hI2 := heap_alloc_new w1 (.cells #[.int .i64 0, .int .i64 3, .string ⟨#[]⟩, .slice none 0 0] 71)
  have hB2 := hB1.alloc (Nat.le_of_lt hs1) (.cells #[.int .i64 0, .int .i64 3, .string ⟨#[]⟩, .slice none 0 0] 71)
  have hs2 : (w1.alloc (.cells #[.int .i64 0, .int .i64 3, .string ⟨#[]⟩, .slice none 0 0] 71)).heap.size = w1.heap.size + 1 := by simp
  have HE2 := Lib.hid hE2
  have HI2 := Lib.hid hI2
  have HB2 := Lib.hid hB2
  have HS2 := Lib.hid hs2
  have hc0 : w1.cell? ⟨b, 0, none⟩ = some (.int .i64 (3)) := hE1.cells.1
  clear B1 hE1 hB1 hE2 hI2 hB2 hs2 HE0 HS0
  rw [HBB.out]
  go_wp2_with fail
  have hE2 := HE2.out
  have hI2 := HI2.out
  have hB2 := HB2.out
  have hs2 := HS2.out
  clear HE2 HI2 HB2 HS2 hc0
  generalize (w1.alloc (.cells #[.int .i64 0, .int .i64 3, .string ⟨#[]⟩, .slice none 0 0] 71)) = w2 at hE2 hI2 hB2 hs2 ⊢
  obtain ⟨i, hi⟩ : ∃ i, w1.heap.size = i := ⟨_, rfl⟩
  rw [hi] at hI2 hs1 hs2 ⊢
  have HX : Hid (∀ W, Below w2.heap.size w2 W → EBox W b ⟨3, r, ops, n⟩ u ∧ W.heap[i]? = some (.cells #[.int .i64 0, .int .i64 3, .string ⟨#[]⟩, .slice none 0 0] 71)) := Lib.hid fun W hW => ⟨hE2.low hW, (hW.block i (by omega)).trans hI2⟩
  have HC : Hid (∀ W, Below w2.heap.size w2 W → Calls Try.prog 34 #[.agg #[u]] W (RetList W (opsL ops))) := Lib.hid fun W hW => graphItem_calls ops HW.out HGG.out u W (OpsAt.on ((HBB.out ▸ hB2 : Below w.heap.size w w2).trans (hW.mono (by rw [HBB.out]; omega))) HO.out)
  have HB2 := Lib.hid hB2
  have hs3 : b + 2 ≤ w2.heap.size := by omega
  obtain ⟨A, cap, rfl, _⟩ := HO.out.form
  clear hE2 hI2 hB2 hs2 hi HW HGG HO
  refine wp_region_noPanic ?_
  refine wp_region_held_tail (C := fun w' => Below w2.heap.size w2 w') [0, 1, 2] [3, 4, 5] 5 (by kernel_rfl) (by kernel_rfl) (fun _ _ _ _ _ h => h) ?_ ?_
  · exact (Below.refl _ _).drew
  iterate 3
    refine heldI_step (v := ?_) rfl (by rfl) (fun w' hw' => ?_) ?_
    rotate_left
    · obtain ⟨hx1, hx2⟩ := HX.out w' hw'
      obtain ⟨k0, k1, k2, k3, k4, k5, k6, k7⟩ := hx1.cells
      obtain ⟨⟨m0, m1, m2, m3⟩, _⟩ := box4_cells hx2
      simp only at k0 k1 k2 k3 k4 k5 k6 k7
      clear hx1 hx2
      go_simp
      all_goals with_reducible rfl
    simp only [Act.put, List.getElem_toArray, List.getElem_cons_succ, List.getElem_cons_zero, List.setIfInBounds_toArray, List.set_cons_succ, List.set_cons_zero]
  refine heldI_nil ?_
  clear HX
  refine seqI_step rfl ?_
  go_wp2_with (go_at_call 34; ((with_reducible refine (HC.out _ (Below.refl _ _).drew).mono ?_); rintro e W1 ⟨v1, rfl, HF1⟩))
  have T1 := (Below.refl w2.heap.size w2).drew.trans (HF1.2.mono (Nat.le_refl _))
  obtain ⟨A1, c1, rfl, _⟩ := HF1.1.form
  refine ⟨T1, ?_⟩
  have s1 := T1.size
  have H1 := Lib.hid T1
  have HF := Lib.hid HF1
  clear T1 HC HF1
  refine seqI_step rfl ?_
  go_wp2_with fail
  refine ⟨H1.out.alloc s1 _, ?_⟩
  refine seqI_last rfl ?_
  go_wp2_with fail
  refine NoPanic.normal ?_
  go_wp2_with fail
  go_ret
  have hB : Below w.heap.size w W1 := by rw [HBB.out]; exact HB2.out.trans (H1.out.mono (by omega))
  refine ⟨_, rfl, ?_, hB.alloc hB.size _⟩
  have hz := hB.size
  exact lit_items W1 [iI 3, iL (opsL ops)] (fun j => if j = 1 then _ else .slice none 0 0) _ 2 W1.heap.size rfl rfl rfl ⟨hz, by simp⟩ (pair_kids 3 (iL (opsL ops)) _ (HF.out.1.keep (fun b hb => Below.heap_alloc _ _ _ hb.2) (fun b hb => ⟨by have h1 := hb.1; have h2 : w2.drew.heap.size = w2.heap.size := rfl; rw [h2] at h1; have := HBB.out; omega, by have h1 := hb.2; simp; omega⟩)))

end Go.Proofs.Ytffehnojcajhiaa.Wire.Entry

namespace Go.Proofs.Ytffehnojcajhiaa.Wire.Entry
open Go Go.RowKit Go.Proofs.Ytffehnojcajhiaa.Law

theorem box5_cells {W : World} {b : Nat} {a0 a1 a2 a3 a4 : Value} {T : TypeId} (h : W.heap[b]? = some (.cells #[a0, a1, a2, a3, a4] T)) :
    W.cell? ⟨b, 0, none⟩ = some a0 ∧ W.cell? ⟨b, 1, none⟩ = some a1 ∧ W.cell? ⟨b, 2, none⟩ = some a2 ∧ W.cell? ⟨b, 3, none⟩ = some a3 ∧ W.cell? ⟨b, 4, none⟩ = some a4 := by
  refine ⟨?_, ?_, ?_, ?_, ?_⟩ <;> simp [World.cell?, h]
theorem rec_kids {S : Nat → Prop} {W : World} (k : Int) (r : Rec) : ∀ (j : Nat) (y : Item), (recL k r)[j]? = some y → Items S W (.slice none 0 0) y.kids := by
  intro j y hy
  match j, hy with
  | 0, hy => simp [recL] at hy; subst hy; exact .nil none 0 _ (fun _ => rfl) rfl
  | 1, hy => simp [recL] at hy; subst hy; exact .nil none 0 _ (fun _ => rfl) rfl
  | 2, hy => simp [recL] at hy; subst hy; exact .nil none 0 _ (fun _ => rfl) rfl
  | 3, hy => simp [recL] at hy; subst hy; exact .nil none 0 _ (fun _ => rfl) rfl
  | 4, hy => simp [recL] at hy; subst hy; exact .nil none 0 _ (fun _ => rfl) rfl
  | 5, hy => simp [recL] at hy; subst hy; exact .nil none 0 _ (fun _ => rfl) rfl
  | j + 6, hy => simp [recL] at hy

set_option maxRecDepth 100000 in
set_option maxHeartbeats 4000000 in
theorem record_message (r : Rec) (hv : r.val < 4294967296) (ops : List Opr) (n : Int) (u : Value) (w : World) : Calls Try.prog 18 #[entV ⟨1, r, ops, n⟩ u] w (RetFresh w (recL 1 r)) := by
  have hv1 : -9223372036854775808 ≤ ((r.val : Nat) : Int) := by omega
  have hv2 : ((r.val : Nat) : Int) ≤ 9223372036854775807 := by omega
  clear hv
  have HB : Hid (∀ o, Below w.heap.size w (w.alloc o)) := Lib.hid fun o => (Below.refl _ _).alloc (Nat.le_refl _) o
  obtain ⟨b, hb⟩ : ∃ b, w.heap.size = b := ⟨_, rfl⟩
  have hE0 := EBox.new w ⟨1, r, ops, n⟩ (u)
  have hs0 : (w.alloc (.cells #[.int .i64 1, .int .i64 r.p, .int .i64 r.q, .int .i64 r.a, .string r.key, .int .u32 (r.val : Nat), u, .int .i64 n] 29)).heap.size = b + 1 := by simp [hb]
  have HE0 := Lib.hid hE0
  have HS0 := Lib.hid hs0
  have HBB := Lib.hid hb
  clear hE0 hs0 hb
  go_enter Try.func18, Try.ntmps18
  go_wp2_with fail
  refine (int_calls 1 _).mono ?_
  rintro e w1 ⟨rfl, B1⟩
  have hs1 : b < w1.heap.size := by have := B1.size; rw [HS0.out] at this; omega
  have hE1 : EBox w1 b ⟨1, r, ops, n⟩ (u) := by have := HE0.out.low B1; rwa [HBB.out] at this
  have hB1 : Below b w w1 := by
    have := (HB.out (.cells #[.int .i64 1, .int .i64 r.p, .int .i64 r.q, .int .i64 r.a, .string r.key, .int .u32 (r.val : Nat), u, .int .i64 n] 29)).trans (B1.mono (by rw [HS0.out, HBB.out]; omega))
    rwa [HBB.out] at this
  have hE2 := hE1.low ((Below.refl _ _).alloc (Nat.le_refl _) (.cells #[.int .i64 0, .int .i64 1, .string ⟨#[]⟩, .slice none 0 0] 71))
  have hI2 := heap_alloc_new w1 (.cells #[.int .i64 0, .int .i64 1, .string ⟨#[]⟩, .slice none 0 0] 71)
  have hB2 := hB1.alloc (Nat.le_of_lt hs1) (.cells #[.int .i64 0, .int .i64 1, .string ⟨#[]⟩, .slice none 0 0] 71)
  have hB2 := hB2.alloc (by rw [World.size_alloc]; omega) (.cells #[.int .i64 r.p, .int .i64 r.q, .int .i64 r.a, .string r.key, .int .u32 (r.val : Nat)] 24)
  have hE2 := hE2.low ((Below.refl _ _).alloc (Nat.le_refl _) (.cells #[.int .i64 r.p, .int .i64 r.q, .int .i64 r.a, .string r.key, .int .u32 (r.val : Nat)] 24))
  have hI2 := ((Below.refl _ _).alloc (Nat.le_refl _) (.cells #[.int .i64 r.p, .int .i64 r.q, .int .i64 r.a, .string r.key, .int .u32 (r.val : Nat)] 24)).block w1.heap.size (by simp) |>.trans hI2
  have hR2 := heap_alloc_new (w1.alloc (.cells #[.int .i64 0, .int .i64 1, .string ⟨#[]⟩, .slice none 0 0] 71)) (.cells #[.int .i64 r.p, .int .i64 r.q, .int .i64 r.a, .string r.key, .int .u32 (r.val : Nat)] 24)
  have hs2 : (w1.alloc (.cells #[.int .i64 0, .int .i64 1, .string ⟨#[]⟩, .slice none 0 0] 71)).heap.size = w1.heap.size + 1 := by simp
  rw [hs2] at hR2
  have hs2 : ((w1.alloc (.cells #[.int .i64 0, .int .i64 1, .string ⟨#[]⟩, .slice none 0 0] 71)).alloc (.cells #[.int .i64 r.p, .int .i64 r.q, .int .i64 r.a, .string r.key, .int .u32 (r.val : Nat)] 24)).heap.size = w1.heap.size + 2 := by simp
  have HR2 := Lib.hid hR2
  have HE2 := Lib.hid hE2
  have HI2 := Lib.hid hI2
  have HB2 := Lib.hid hB2
  have HS2 := Lib.hid hs2
  obtain ⟨hc0, hc1, hc2, hc3, hc4, hc5, _, _⟩ := hE1.cells
  simp only at hc0 hc1 hc2 hc3 hc4 hc5
  clear hR2 B1 hE1 hB1 hE2 hI2 hB2 hs2 HE0 HS0
  rw [HBB.out]
  go_wp2_with fail
  have hE2 := HE2.out
  have hI2 := HI2.out
  have hB2 := HB2.out
  have hs2 := HS2.out
  have hR2 := HR2.out
  clear HE2 HI2 HB2 HS2 HR2 hc0 hc1 hc2 hc3 hc4 hc5
  generalize ((w1.alloc (.cells #[.int .i64 0, .int .i64 1, .string ⟨#[]⟩, .slice none 0 0] 71)).alloc (.cells #[.int .i64 r.p, .int .i64 r.q, .int .i64 r.a, .string r.key, .int .u32 (r.val : Nat)] 24)) = w3 at hE2 hI2 hB2 hs2 hR2 ⊢
  have hs0 : (w1.alloc (.cells #[.int .i64 0, .int .i64 1, .string ⟨#[]⟩, .slice none 0 0] 71)).heap.size = w1.heap.size + 1 := by simp
  obtain ⟨i, hi⟩ : ∃ i, w1.heap.size = i := ⟨_, rfl⟩
  simp only [hi] at hI2 hs1 hs2 hR2 ⊢
  have HX : Hid (∀ W, Below w3.heap.size w3 W → EBox W b ⟨1, r, ops, n⟩ u ∧ W.heap[i]? = some (.cells #[.int .i64 0, .int .i64 1, .string ⟨#[]⟩, .slice none 0 0] 71) ∧ W.heap[i + 1]? = some (.cells #[.int .i64 r.p, .int .i64 r.q, .int .i64 r.a, .string r.key, .int .u32 (r.val : Nat)] 24)) := Lib.hid fun W hW => ⟨hE2.low hW, (hW.block i (by omega)).trans hI2, (hW.block (i + 1) (by omega)).trans hR2⟩
  have HC : Hid (∀ n W, Calls Try.prog 32 #[.int .i64 n] W fun e W' => e = .returned (.agg #[.int .i64 0, .int .i64 n, .string ⟨#[]⟩, .slice none 0 0]) ∧ Below W.heap.size W W') := Lib.hid fun n W => int_calls n W
  have HT : Hid (∀ W, Calls Try.prog 33 #[.string r.key] W fun e W' => e = .returned (.agg #[.int .i64 1, .int .i64 0, .string r.key, .slice none 0 0]) ∧ Below W.heap.size W W') := Lib.hid fun W => text_calls r.key W
  have HB2 := Lib.hid hB2
  have hs3 : b + 3 ≤ w3.heap.size := by omega
  clear hE2 hI2 hB2 hs2 hR2 hs0 hi
  refine wp_region_noPanic ?_
  refine wp_region_held_tail (C := fun w' => Below w3.heap.size w3 w') [0, 1, 2, 4, 5, 7, 8, 10, 11, 13, 14, 15] [3, 6, 9, 12, 16, 17, 18] 18 (by kernel_rfl) (by kernel_rfl) (fun _ _ _ _ _ h => h) ?_ ?_
  · exact (Below.refl _ _).drew
  iterate 12
    refine heldI_step (v := ?_) rfl (by rfl) (fun w' hw' => ?_) ?_
    rotate_left
    · obtain ⟨hx1, hx2, hx3⟩ := HX.out w' hw'
      obtain ⟨⟨m0, m1, m2, m3⟩, _⟩ := box4_cells hx2
      obtain ⟨k0, k1, k2, k3, k4⟩ := box5_cells hx3
      clear hx1 hx2 hx3
      go_simp
      all_goals with_reducible rfl
    simp only [Act.put, List.getElem_toArray, List.getElem_cons_succ, List.getElem_cons_zero, List.setIfInBounds_toArray, List.set_cons_succ, List.set_cons_zero]
  refine heldI_nil ?_
  clear HX
  refine seqI_step rfl ?_
  go_wp2_with (go_at_call 32; ((with_reducible refine (HC.out _ _).mono ?_); rintro e W1 ⟨rfl, B1⟩; have T1 := (Below.refl w3.heap.size w3).drew.trans (B1.mono (Nat.le_refl _))))
  refine ⟨T1, ?_⟩
  clear B1
  have s1 := T1.size
  have H1 := Lib.hid T1
  clear T1
  refine seqI_step rfl ?_
  go_wp2_with (go_at_call 32; ((with_reducible refine (HC.out _ _).mono ?_); rintro e W2 ⟨rfl, B2⟩; have T2 := H1.out.trans (B2.mono s1)))
  refine ⟨T2, ?_⟩
  clear B2 H1
  have s2 := T2.size
  have H2 := Lib.hid T2
  clear T2
  refine seqI_step rfl ?_
  go_wp2_with (go_at_call 32; ((with_reducible refine (HC.out _ _).mono ?_); rintro e W3 ⟨rfl, B3⟩; have T3 := H2.out.trans (B3.mono s2)))
  refine ⟨T3, ?_⟩
  clear B3 H2
  have s3 := T3.size
  have H3 := Lib.hid T3
  clear T3
  refine seqI_step rfl ?_
  go_wp2_with (go_at_call 33; ((with_reducible refine (HT.out _).mono ?_); rintro e W4 ⟨rfl, B4⟩; have T4 := H3.out.trans (B4.mono s3)))
  refine ⟨T4, ?_⟩
  clear B4 H3
  have s4 := T4.size
  have H4 := Lib.hid T4
  clear T4
  refine seqI_step rfl ?_
  go_wp2_with (go_at_call 32; ((with_reducible refine (HC.out _ _).mono ?_); rintro e W5 ⟨rfl, B5⟩; have T5 := H4.out.trans (B5.mono s4)))
  refine ⟨T5, ?_⟩
  clear B5 H4
  have s5 := T5.size
  have H5 := Lib.hid T5
  clear T5
  refine seqI_step rfl ?_
  go_wp2_with fail
  refine ⟨H5.out.alloc s5 _, ?_⟩
  refine seqI_last rfl ?_
  go_wp2_with fail
  refine NoPanic.normal ?_
  go_wp2_with fail
  go_ret
  have hB : Below w.heap.size w W5 := by rw [HBB.out]; exact HB2.out.trans (H5.out.mono (by omega))
  refine ⟨_, rfl, ?_, hB.alloc hB.size _⟩
  have hz := hB.size
  exact lit_items W5 (recL 1 r) (fun _ => .slice none 0 0) _ 6 W5.heap.size rfl rfl rfl ⟨hz, by simp⟩ (rec_kids 1 r)

/-- Every entry in form. -/
theorem message_calls (e : Ent) (hw : e.wf) (hg : e.good) (u : Value) (w : World) (h : OldO w.heap.size w u e.ops) : Calls Try.prog 18 #[entV e u] w (RetFresh w (msg e)) := by
  obtain ⟨k, r, ops, n⟩ := e
  rcases hg with ⟨h1, h2, h3, h4⟩ | ⟨h1, h2, h3, h4⟩ | ⟨h1, h2, h3, h4⟩ | ⟨h1, h2, h3, h4⟩
  · simp only at h1 h2 h3 h4
    subst h1 h3
    exact noop_message r u n w
  · simp only at h1 h2 h3 h4
    subst h1
    exact record_message r hw.2.1.2.2.2.2 ops n u w
  · simp only at h1 h2 h3 h4
    subst h1
    exact deploy_message ops hw.2.2.1 h3 r n u w h
  · simp only at h1 h2 h3 h4
    subst h3
    have hm : msg ⟨k, r, [], n⟩ = [iI k, iI n] := by
      unfold msg
      simp only
      rw [if_neg (by omega), if_neg (by omega), if_neg (by omega)]
    rw [hm]
    exact num_message k n h1 r u w

end Go.Proofs.Ytffehnojcajhiaa.Wire.Entry
