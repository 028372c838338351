/-
  The walk of DedupLooks.
-/
import Derived.Test.YtlcmnemneghohaaDedupKnown
namespace Go.Proofs.Ytlcmnemneghohaa.Dedup
open Go Go.RowKit Go.Lib Go.Sort Go.Shelf Go.Proofs Go.Proofs.Ytlcmnemneghohaa.Law

set_option maxRecDepth 1000000 in
set_option maxHeartbeats 8000000 in
theorem dedupLooks_law (l : List Rw) (hwf : ∀ x ∈ l, wfRw x) (hl : l.length * 24 ≤ 140737488351232) (a b seq : Int) (hs : i64 seq) (v : Value) (w : World) (h : OldW w.heap.size w v l) :
    Calls Try.prog 3 #[v, .agg #[.int .i64 a, .int .i64 b], .int .i64 seq] w fun e W' => e = .returned (.bool true) ∧ Below w.heap.size w W' := by
  obtain ⟨W1, hW1⟩ : ∃ W1, w.alloc (.cells #[.int .i64 a, .int .i64 b] 23) = W1 := ⟨_, rfl⟩
  have hB1 : Below w.heap.size w W1 := by rw [← hW1]; exact alloc_low _ _
  have hx : W1.heap[w.heap.size]? = some (.cells #[.int .i64 a, .int .i64 b] 23) := by rw [← hW1]; exact heap_alloc_new w _
  have c0 : W1.cell? ⟨w.heap.size, 0, none⟩ = some (.int .i64 a) := by simp [World.cell?, hx]
  have c1 : W1.cell? ⟨w.heap.size, 1, none⟩ = some (.int .i64 b) := by simp [World.cell?, hx]
  have h1 : OldW W1.heap.size W1 v l := ThreeAt.on hB1 h
  have hR : ∀ d os, OldW (grow (redrawn W1 d) os).heap.size (grow (redrawn W1 d) os) v l := fun d os => ThreeAt.on (below_regrown W1 d os) h1
  have hm : l.length ≤ 281474976710656 := by omega
  have k1 := fun d os => Calls.regrown_of (d := d) (os := os) (known_calls (grow (redrawn W1 d) os))
  have k2 := fun d os => Calls.regrown_of (d := d) (os := os) (good_calls l hm v _ (hR d os))
  have k3 := fun d os => Calls.regrown_of (d := d) (os := os) (refGood_calls l hm v _ (hR d os))
  rw [good_same] at k2
  have k4 := fun d os => Calls.regrown_of (d := d) (os := os) (last_calls l a b v _ hm (hR d os))
  have k5 := fun d os => Calls.regrown_of (d := d) (os := os) (refLast_calls l a b v _ hm (hR d os))
  have k6 := fun d os => Calls.regrown_of (d := d) (os := os) (look_calls l a b seq v _ hm (hR d os) (wf_last hwf a b) hs)
  have k7 := fun d os => Calls.regrown_of (d := d) (os := os) (refLook_calls l a b seq v _ hm (hR d os) (wf_last hwf a b) hs)
  generalize goodR l = g at k2 k3
  generalize lookL (lastL l a b) seq = z2 at k6 k7
  generalize lastL l a b = z1 at k4 k5
  have K1 := Lib.hid k1
  have K2 := Lib.hid k2
  have K3 := Lib.hid k3
  have K4 := Lib.hid k4
  have K5 := Lib.hid k5
  have K6 := Lib.hid k6
  have K7 := Lib.hid k7
  have HB := Lib.hid hB1
  have HW := Lib.hid hW1
  have u0 := fun d os => cell_regrown c0 d os
  have u1 := fun d os => cell_regrown c1 d os
  have e0 : (g == g) = true := beq_self_eq_true _
  have e1 : (z1 == z1) = true := beq_self_eq_true _
  have e2 : (z2 == z2) = true := beq_self_eq_true _
  obtain ⟨A, cap, rfl, _⟩ := h.form
  clear k1 k2 k3 k4 k5 k6 k7 hB1 hW1 hx c0 c1 h1 hR hm hwf hl hs h
  go_enter Try.func3, Try.ntmps3
  go_wp2_with fail
  rw [HW.out]
  refine wp_region_quiet_below (by kernel_rfl) (by kernel_rfl) ?_
  repeat (go_big_quiet_step ((first | exact K1.out _ _ | exact K2.out _ _ | exact K3.out _ _ | exact K4.out _ _ | exact K5.out _ _ | exact K6.out _ _ | exact K7.out _ _)))
  refine wpQuiet_nil ?_
  intro w' hw'
  obtain ⟨⟨d, os⟩, rfl⟩ := hw'
  have HF : Hid (Below w.heap.size w (grow (redrawn W1 d) os)) := Lib.hid (HB.out.trans ((below_regrown W1 d os).mono HB.out.size))
  generalize grow (redrawn W1 d) os = w3 at HF ⊢
  go_wp2_with fail
  go_ret
  exact ⟨rfl, HF.out⟩

end Go.Proofs.Ytlcmnemneghohaa.Dedup
