/-
  The walk of the law GraphChecks.
-/
import Derived.Test.YtbgmhjcccabmmaaGraphKnown
namespace Go.Proofs.Ytbgmhjcccabmmaa.Graph
open Go Go.RowKit Go.Proofs.Ytbgmhjcccabmmaa.Law

set_option maxRecDepth 100000 in
set_option maxHeartbeats 4000000 in
theorem graphChecks_law (l : List Opr) (hl : l.length * 72 ≤ 140737488351232) (hin : ∀ x ∈ l, x.ins.length * 8 ≤ 140737488351232) (v : Value) (w : World) (h : OldO w.heap.size w v l) :
    Calls Try.prog 3 #[.agg #[v]] w (RetT true w) := by
  obtain ⟨A, cap, rfl, _⟩ := h.form
  obtain ⟨n, hn⟩ : ∃ n, l.length = n := ⟨_, rfl⟩
  obtain ⟨w0, hw0⟩ : ∃ w0, w.alloc (.cells #[.slice A n cap] 24) = w0 := ⟨_, rfl⟩
  have hB0 : Below w.heap.size w w0 := by rw [← hw0]; exact alloc_low _ _
  have hb0 : w0.heap[w.heap.size]? = some (.cells #[.slice A n cap] 24) := by rw [← hw0]; exact heap_alloc_new w _
  obtain ⟨c0, _⟩ := box1 hb0
  have C1 := check_calls l hl hin _ w0 (h.on hB0)
  have C2 := Lib.hid fun W (hB : Below w0.heap.size w0 W) => refCheck_calls l hl hin _ W ((h.on hB0).on hB)
  rw [hn] at C1 C2 ⊢
  have HC1 := Lib.hid C1
  have HW := Lib.hid hw0
  have HB0 := Lib.hid hB0
  have HBX := Lib.hid hb0
  clear C1 hw0 hB0 hb0 h hn hin hl
  go_enter Try.func3, Try.ntmps3
  go_wp2_with fail
  rw [HW.out]
  refine HC1.out.mono ?_
  rintro e w2 ⟨i, er, rfl, hc, B2⟩
  have HB2 := Lib.hid B2
  have HC := Lib.hid hc
  obtain ⟨d0, _⟩ := box1 ((B2.block w.heap.size (lt_of_some HBX.out)).trans HBX.out)
  clear B2 hc HC1
  go_wp2_with fail
  refine (C2.out w2 HB2.out).mono ?_
  rintro e w3 ⟨i3, er3, rfl, hc, B3⟩
  obtain ⟨rfl, rfl⟩ := HC.out.uniq hc
  have HB3 := Lib.hid (HB0.out.trans ((HB2.out.trans (B3.mono HB2.out.size)).mono HB0.out.size))
  clear B3 hc C2
  go_wp2_with fail
  refine (known_calls _).mono ?_
  rintro e w4 ⟨rfl, B4⟩
  have HB4 := Lib.hid (HB3.out.trans (B4.mono HB3.out.size))
  clear B4
  go_wp2_with fail
  go_ret
  exact ⟨by simp, HB4.out⟩

end Go.Proofs.Ytbgmhjcccabmmaa.Graph
