/-
  The document's own reading of a text.
-/
import Derived.Test.YtffehnojcajhiaaWireItemA
namespace Go.Proofs.Ytffehnojcajhiaa.Wire
open Go Go.RowKit Go.Proofs.Ytffehnojcajhiaa.Law

set_option maxRecDepth 100000 in
set_option maxHeartbeats 8000000 in
theorem reftext_calls (d rb n₀ c n : Nat) (B : Value) (r r' : List Nat) (SS : ByteArray) (w : World) (hd : d ≤ 8) (hlen : r.length + 1 ≤ 65536) (hc : c + 1 ≤ 4096) (hR : Rd w rb B c 0) (hI : Bytes n₀ w B (1 :: r)) (hn : n₀ ≤ rb)
    (hRN : rdNum 0 0 r = .ok (n, r')) (hend : n ≤ r'.length) (hSS : str (r'.take n) = SS) :
    Calls Try.prog 45 #[.pointer (some ⟨rb, 0, none⟩), .int .i64 (d : Nat)] w (ItemRead w rb n₀ (.ok (.mk 1 0 SS [], c + 1, r'.drop n))) := by
  obtain ⟨r0, r1, r2, z0, z1, z2⟩ := hR.cells
  have hrb := lt_of_some hR
  have hne : ¬ rb = w.heap.size := by omega
  have hne2 : ¬ rb = w.heap.size + 1 := by omega
  obtain ⟨A, cap, rfl⟩ := hI.form
  obtain ⟨len, hlen0⟩ : ∃ len, (1 :: r).length = len := ⟨_, rfl⟩
  have hcap := hI.capOk
  rw [hlen0] at hI hR hcap r0
  have hl1 : r.length + 1 = len := by simpa using hlen0
  have HR := Lib.hid hR
  have HI := Lib.hid hI
  clear hR hI hlen0
  have hdI : ¬ 8 < (d : Int) := by omega
  have HSS := Lib.hid hSS
  clear hSS
  have hbI : ¬ 4096 < (c : Int) + 1 := by omega
  obtain ⟨bk, off, rfl, hbk, hcl⟩ := HI.out.cells (by omega)
  have hc0 := hcl 0 (by omega)
  rw [Nat.add_zero, show (1 :: r).getD 0 0 = 1 from rfl] at hc0
  have hlI : ¬ (len : Int) = 0 := by omega
  have hlI2 : 0 < (len : Int) := by omega
  have hneb : ¬ bk = rb := by omega
  have hcX : ∀ (v : Value) (o : Obj), ((w.setCell ⟨rb, 1, none⟩ v).alloc o).cell? ⟨bk, off, none⟩ = some (.int .u8 1) := fun v o => by
    have h1 : (w.setCell ⟨rb, 1, none⟩ v).cell? ⟨bk, off, none⟩ = some (.int .u8 1) := (World.cell?_of_block (a := ⟨bk, off, none⟩) (Below.heap_setCell _ _ _ _ hneb)).trans hc0
    exact (World.cell?_of_block (a := ⟨bk, off, none⟩) (Below.heap_alloc _ _ _ (block_lt_cell h1))).trans h1
  clear hcl
  obtain ⟨B1, hrun, hB1⟩ := run_behind HI.out .i64 (show 1 ≤ len by omega)
  have hrun1 : ∀ w', (Instr.sliceAt 48 (.slice (some ⟨bk, off, none⟩) len cap) (some (.int .i64 1)) none none).run Try.prog w' = .ok B1 w' := fun w' => by simpa using hrun w'
  replace hB1 : Bytes n₀ w B1 r := hB1
  obtain ⟨A1, cap1, rfl⟩ := hB1.form
  obtain ⟨lr, hlr⟩ : ∃ lr, r.length = lr := ⟨_, rfl⟩
  rw [hlr] at hB1 hrun1
  have HRUN := Lib.hid hrun1
  have HW5 := Lib.hid (fun o => read1 HR.out hn hB1 (v := .int .i64 ((c : Int) + 1)) rfl o)
  have HLR := Lib.hid hlr
  have HRN := Lib.hid hRN
  clear hrun hrun1 hB1 hlr hRN
  have hnn1 : ¬ w.heap.size = rb := by omega
  go_enter Try.func45, Try.ntmps45
  go_wp2_with (refine wpList_slice_ran (o := ⟨some 59, _, _, _, _, _⟩) rfl _ _ _ _ _ rfl rfl rfl rfl rfl (HRUN.out _) ?_)
  obtain ⟨g1, g2, g3, g4, g5, g6⟩ := HW5.out (.cells #[.int .i64 1, .int .i64 0, .string ⟨#[]⟩, .slice none 0 0] 71)
  have cN := refnumber_calls rb n₀ (c + 1) (.slice A1 lr cap1) r (by omega) _ g1 g2 hn
  rw [HRN.out] at cN
  have key : ∀ (W2 : World), ((((w.setCell ⟨rb, 1, none⟩ (.int .i64 ((c : Int) + 1))).setCell ⟨rb, 0, none⟩ (.slice A1 lr cap1)).alloc zeroBox).alloc (.cells #[.int .i64 1, .int .i64 0, .string ⟨#[]⟩, .slice none 0 0] 71)).grownBy W2 (some rb) →
      W2.heap[w.heap.size]? = some zeroBox ∧ W2.heap[w.heap.size + 1]? = some (.cells #[.int .i64 1, .int .i64 0, .string ⟨#[]⟩, .slice none 0 0] 71) ∧ w.grownBy W2 (some rb) ∧ w.heap.size + 2 ≤ W2.heap.size := fun W2 hG =>
    ⟨(hG.block _ (by rw [g6]; omega) (by simp; omega)).trans g3, (hG.block _ (by rw [g6]; omega) (by simp; omega)).trans g4, g5.trans hG, by have := hG.size; omega⟩
  have KEY := Lib.hid key
  clear key g1 g2 g3 g4 g5 g6 hcX hc0 r0 r1 r2 z0 z1 z2
  refine cN.mono ?_
  clear cN
  rintro e W2 ⟨rfl, hG, B2, hR2, hI2⟩
  obtain ⟨k1, k2, k3, k4⟩ := KEY.out W2 hG
  obtain ⟨q0, q1, q2, q3, p0, p1, p2, p3⟩ := box4 k1
  obtain ⟨i0, i1, i2, i3, j0, j1, j2, j3⟩ := box4 k2
  have hrl : r'.length ≤ 65536 := by have := (rdNum_length r 0 0 n r' HRN.out).1; omega
  obtain ⟨A2, cap2, rfl⟩ := hI2.form
  obtain ⟨l2, hl2⟩ : ∃ l2, r'.length = l2 := ⟨_, rfl⟩
  rw [hl2] at hI2 hR2 hrl hend
  obtain ⟨r0, r1, r2, z0, z1, z2⟩ := hR2.cells
  have hhne : ¬ w.heap.size + 1 = w.heap.size := by omega
  have hhne2 : ¬ w.heap.size = w.heap.size + 1 := by omega
  have hrne2 : ¬ w.heap.size + 1 = rb := by omega
  have HR2 := Lib.hid hR2
  have HI2 := Lib.hid hI2
  have K3 := Lib.hid k3
  have K2 := Lib.hid k2
  have HL2 := Lib.hid hl2
  clear hG hR2 hI2 KEY k2 k1 k3 hl2 HRUN HW5 HRN

  have hl2b : (l2 : Int) ≤ 65536 := by omega
  have hnb : (n : Int) ≤ 65536 := by omega
  have heI : decide ((l2 : Int) < (n : Int)) = false := by simp only [decide_eq_false_iff_not]; omega
  have heN : decide (l2 < n) = false := by simp only [decide_eq_false_iff_not]; omega
  have hb63 : decide ((9223372036854775807 : Int) < (n : Int)) = false := by simp only [decide_eq_false_iff_not]; omega
  obtain ⟨BA, hrunA, hBA⟩ := run_ahead HI2.out .u64 hend
  obtain ⟨BB, hrunB, hBB⟩ := run_behind HI2.out .u64 hend
  obtain ⟨AA, capA, rfl⟩ := hBA.form
  obtain ⟨AB, capB, rfl⟩ := hBB.form
  have cs := run_string_bytes (P := Try.prog) W2 Try.underlying48 Try.underlying5 Try.underlying9 hBA
  have HA := Lib.hid hrunA
  have HB := Lib.hid hrunB
  have HBB := Lib.hid hBB
  obtain ⟨lA, hlA⟩ : ∃ lA, (List.take n r').length = lA := ⟨_, rfl⟩
  obtain ⟨lB, hlB⟩ : ∃ lB, (List.drop n r').length = lB := ⟨_, rfl⟩
  rw [hlA] at cs HA
  rw [hlB] at HBB HB
  rw [HSS.out] at cs
  clear hrunA hrunB hBA hBB hlA hlB HSS
  go_wp2_with (first | (refine wpList_slice_ran (o := ⟨some 112, _, _, _, _, _⟩) rfl _ _ _ _ _ rfl rfl rfl rfl rfl (HA.out _) ?_) | (refine wpList_slice_ran (o := ⟨some 121, _, _, _, _, _⟩) rfl _ _ _ _ _ rfl rfl rfl rfl rfl (HB.out _) ?_))
  trace "K1B"
  refine bodyPost_ret (v := aggOf (.mk 1 0 SS []) (.slice none 0 0)) (by simp [aggOf, Item.kind, Item.n, Item.s, results, Try.results45, go_sem, q0, q1, q2, q3]) rfl ?_
  refine ⟨.slice none 0 0, .slice AB lB capB, rfl, ?_, ?_, ?_, Items.nil none 0 [] (fun _ => rfl) rfl⟩
  · exact grown_put4 (grown_set (i := 0) (grown_put K3.out (Nat.le_succ _) _) _) (Nat.le_refl _) _ _ _ _
  · exact rd_put4 ((rd_put HR2.out (by omega) _).set0 _) (by omega) _ _ _ _
  · exact by_put4 (by_put (by_put HBB.out (by omega) _) hn _) (by omega) _ _ _ _

end Go.Proofs.Ytffehnojcajhiaa.Wire
