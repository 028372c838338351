/-
  Contract of mail's Twice.
-/
import Derived.Test.YtjcgkjjomiapoaaMailSend
import Derived.StillTailTactics
namespace Go.Proofs.Ytjcgkjjomiapoaa.Mail
open Go Go.RowKit Go.Proofs.Ytjcgkjjomiapoaa.Law

theorem seg_msg {W : World} {base n cap g o : Nat} {ms : List Msg} (h : Seg W base 68 3 (.slice (some ⟨g, o, none⟩) n cap) n (flatM ms)) {k : Nat} {m : Msg} (hk : ms[k]? = some m) :
    W.cell? ⟨g, o + k * 3, none⟩ = some (.int .i64 m.src) ∧ W.cell? ⟨g, o + k * 3 + 1, none⟩ = some (.int .i64 m.dst) ∧ W.cell? ⟨g, o + k * 3 + 2, none⟩ = some (.string m.s) := by
  obtain ⟨h0, h1, h2⟩ := flatM_get hk
  exact ⟨(h.cell h0).1, (h.cell h1).1, (h.cell h2).1⟩

set_option maxRecDepth 100000 in
set_option maxHeartbeats 4000000 in
theorem twice_calls (base p : Nat) (nodes : Int) (ms : List Msg) (w : World) (h : Post w base p nodes ms) (hbase : base ≤ w.heap.size) (k : Nat) (m : Msg) (hk : ms[k]? = some m) (hroom : (ms.length + 1) * 32 ≤ 140737488355328) :
    Calls Try.prog 14 #[.pointer (some ⟨p, 0, none⟩), .int .i64 (k : Nat)] w (Sent w base p nodes ms m) := by
  have hkl : k < ms.length := (List.getElem?_eq_some_iff.1 hk).1
  have CR := Lib.hid (refusal_no base p nodes ms (k : Nat) w h (by omega) (by omega))
  obtain ⟨hbp, rv, h1, hO⟩ := h
  obtain ⟨R, rc, rfl, _⟩ := hO.form
  obtain ⟨n, hn⟩ : ∃ n, ms.length = n := ⟨_, rfl⟩
  rw [hn] at h1 hO hkl
  obtain ⟨g, o, cur, rfl, hbg, hg, hnc, hcm, hfit, _⟩ := hO.at (by omega)
  obtain ⟨e0, e1, e2⟩ := seg_msg hO hk
  obtain ⟨S, D, T⟩ := m
  simp only at e0 e1 e2
  obtain ⟨c0, c1, c2⟩ := h1.cells
  have hp := h1.lt
  have hglt : g < w.heap.size := (Array.getElem?_eq_some_iff.1 hg).1
  obtain ⟨W0, hW0⟩ : ∃ W0, w.drew.alloc (.cells #[.int .i64 S, .int .i64 D, .string T] 68) = W0 := ⟨_, rfl⟩
  have hF0 : Frm isPost base w W0 := by rw [← hW0]; exact ((Frm.refl isPost base w).drew).alloc hbase _
  have hm0 : W0.heap[w.heap.size]? = some (.cells #[.int .i64 S, .int .i64 D, .string T] 68 (0, 0)) := by
    rw [← hW0]
    exact heap_alloc_new w.drew (.cells #[.int .i64 S, .int .i64 D, .string T] 68)
  have hB0 : Below w.heap.size w W0 := by rw [← hW0]; exact ((Below.refl _ _).drew).alloc (by simp) _
  have hs0 : base ≤ W0.heap.size := Nat.le_trans hbase hF0.size
  obtain ⟨A', cap', W1, hrun, g1, g2, g3, g4⟩ := post_append (m := ⟨S, D, T⟩) hbp hn ((hB0.block p h1.lt).trans h1) (hO.below hB0) hs0 63 w.heap.size hm0 hroom
  rw [← hW0] at hrun
  obtain ⟨k0, k1, k2⟩ := g1.cells
  have k21 := k2 1
  have HRUN := Lib.hid hrun
  have HDONE := Lib.hid (And.intro g3 (hF0.trans g4))
  clear hrun h1 hO hn hW0 hF0 hm0 hB0 g1 g3 g4 k2 hroom c2 hg hk
  go_enter Try.func14, Try.ntmps14
  go_wp2_with fail
  refine CR.out.mono ?_
  rintro e W ⟨rfl, rfl⟩
  go_wp2_with fail
  go_region_law (refine step_append_ran rfl _ _ _ rfl rfl rfl HRUN.out ?_)
  all_goals
    go_wp2_with fail
    go_ret
    exact ⟨rfl, HDONE.out⟩

set_option maxRecDepth 100000 in
theorem twice_none (base p : Nat) (nodes : Int) (ms : List Msg) (w : World) (h : Post w base p nodes ms) (i : Int) (hi : i < 0 ∨ (ms.length : Nat) ≤ i) :
    Calls Try.prog 14 #[.pointer (some ⟨p, 0, none⟩), .int .i64 i] w fun e W => e = .returned (.int .i64 7) ∧ w = W := by
  have CR := Lib.hid (refusal_none base p nodes ms i w h hi)
  clear h hi
  go_enter Try.func14, Try.ntmps14
  go_wp2_with fail
  refine CR.out.mono ?_
  rintro e W ⟨rfl, rfl⟩
  go_wp2_with fail
  go_ret
  exact ⟨rfl, rfl⟩
set_option maxRecDepth 100000 in
theorem twice_nil (i : Int) (w : World) :
    Calls Try.prog 14 #[.pointer none, .int .i64 i] w fun e W => e = .returned (.int .i64 9) ∧ w = W := by
  have CR := Lib.hid (refusal_nil i w)
  go_enter Try.func14, Try.ntmps14
  go_wp2_with fail
  refine CR.out.mono ?_
  rintro e W ⟨rfl, rfl⟩
  go_wp2_with fail
  go_ret
  exact ⟨rfl, rfl⟩

end Go.Proofs.Ytjcgkjjomiapoaa.Mail
