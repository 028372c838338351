/-
  Put together out of texts of one chain: what they hold stands ahead of each.
-/
import Derived.Test.YtdikmlnpclklnaaGreatDoorGSlotScripts12
import Derived.Test.YtdikmlnpclklnaaGreatDoorGSlotScripts13
import Derived.Test.YtdikmlnpclklnaaGreatDoorGSlotScripts14
import Derived.BigQuiet
import Derived.Deep.QuietTactic
/-
  The document's own reading of a text.
-/
namespace Go.Proofs.YtdikmlnpclklnaaGreatDoor.Wire
open Go Go.RowKit Go.Proofs.YtdikmlnpclklnaaGreatDoor.Law

set_option maxRecDepth 100000 in
set_option maxHeartbeats 8000000 in
theorem reftext_calls (d rb n₀ c n : Nat) (B : Value) (r r' : List Nat) (SS : ByteArray) (w : World) (hd : d ≤ 8) (hlen : r.length + 1 ≤ 65536) (hc : c + 1 ≤ 4096) (hR : Rd w rb B c 0) (hI : Bytes n₀ w B (1 :: r)) (hn : n₀ ≤ rb)
    (hRN : rdNum 0 0 r = .ok (n, r')) (hend : n ≤ r'.length) (hSS : str (r'.take n) = SS) :
    Calls Tryz.prog 121 #[.pointer (some ⟨rb, 0, none⟩), .int .i64 (d : Nat)] w (ItemRead w rb n₀ (.ok (.mk 1 0 SS [], c + 1, r'.drop n))) := by
  obtain ⟨r0, r1, r2, z0, z1, z2⟩ := hR.cells
  have hrb := lt_of_some hR
  have hne : ¬ rb = w.heap.size := by omega
  have hne2 : ¬ rb = w.heap.size + 1 := by omega
  obtain ⟨A, cap, rfl⟩ := hI.form
  obtain ⟨len, hlen0⟩ : ∃ len, (1 :: r).length = len := ⟨_, rfl⟩
  have hcap := hI.capOk
  rw [hlen0] at hI hR hcap r0
  have hl1 : r.length + 1 = len := by simpa using hlen0
  have HR := Lib.hid hR
  have HI := Lib.hid hI
  clear hR hI hlen0
  have hdI : ¬ 8 < (d : Int) := by omega
  have HSS := Lib.hid hSS
  clear hSS
  have hbI : ¬ 4096 < (c : Int) + 1 := by omega
  obtain ⟨bk, off, rfl, hbk, hcl⟩ := HI.out.cells (by omega)
  have hc0 := hcl 0 (by omega)
  rw [Nat.add_zero, show (1 :: r).getD 0 0 = 1 from rfl] at hc0
  have hlI : ¬ (len : Int) = 0 := by omega
  have hlI2 : 0 < (len : Int) := by omega
  have hneb : ¬ bk = rb := by omega
  have hcX : ∀ (v : Value) (o : Obj), ((w.setCell ⟨rb, 1, none⟩ v).alloc o).cell? ⟨bk, off, none⟩ = some (.int .u8 1) := fun v o => by
    have h1 : (w.setCell ⟨rb, 1, none⟩ v).cell? ⟨bk, off, none⟩ = some (.int .u8 1) := (World.cell?_of_block (a := ⟨bk, off, none⟩) (Below.heap_setCell _ _ _ _ hneb)).trans hc0
    exact (World.cell?_of_block (a := ⟨bk, off, none⟩) (Below.heap_alloc _ _ _ (block_lt_cell h1))).trans h1
  clear hcl
  obtain ⟨B1, hrun, hB1⟩ := run_behind HI.out .i64 (show 1 ≤ len by omega)
  have hrun1 : ∀ w', (Instr.sliceAt 29 (.slice (some ⟨bk, off, none⟩) len cap) (some (.int .i64 1)) none none).run Tryz.prog w' = .ok B1 w' := fun w' => by simpa using hrun w'
  replace hB1 : Bytes n₀ w B1 r := hB1
  obtain ⟨A1, cap1, rfl⟩ := hB1.form
  obtain ⟨lr, hlr⟩ : ∃ lr, r.length = lr := ⟨_, rfl⟩
  rw [hlr] at hB1 hrun1
  have HRUN := Lib.hid hrun1
  have HW5 := Lib.hid (fun o => read1 HR.out hn hB1 (v := .int .i64 ((c : Int) + 1)) rfl o)
  have HLR := Lib.hid hlr
  have HRN := Lib.hid hRN
  clear hrun hrun1 hB1 hlr hRN
  have hnn1 : ¬ w.heap.size = rb := by omega
  go_enter Tryz.func121, Tryz.ntmps121
  go_wp2_with (refine wpList_slice_ran (o := ⟨some 59, _, _, _, _, _⟩) rfl _ _ _ _ _ rfl rfl rfl rfl rfl (HRUN.out _) ?_)
  obtain ⟨g1, g2, g3, g4, g5, g6⟩ := HW5.out (.cells #[.int .i64 1, .int .i64 0, .string ⟨#[]⟩, .slice none 0 0] 145)
  have cN := refnumber_calls rb n₀ (c + 1) (.slice A1 lr cap1) r (by omega) _ g1 g2 hn
  rw [HRN.out] at cN
  have key : ∀ (W2 : World), ((((w.setCell ⟨rb, 1, none⟩ (.int .i64 ((c : Int) + 1))).setCell ⟨rb, 0, none⟩ (.slice A1 lr cap1)).alloc zeroBox).alloc (.cells #[.int .i64 1, .int .i64 0, .string ⟨#[]⟩, .slice none 0 0] 145)).grownBy W2 (some rb) →
      W2.heap[w.heap.size]? = some zeroBox ∧ W2.heap[w.heap.size + 1]? = some (.cells #[.int .i64 1, .int .i64 0, .string ⟨#[]⟩, .slice none 0 0] 145) ∧ w.grownBy W2 (some rb) ∧ w.heap.size + 2 ≤ W2.heap.size := fun W2 hG =>
    ⟨(hG.block _ (by rw [g6]; omega) (by simp; omega)).trans g3, (hG.block _ (by rw [g6]; omega) (by simp; omega)).trans g4, g5.trans hG, by have := hG.size; omega⟩
  have KEY := Lib.hid key
  clear key g1 g2 g3 g4 g5 g6 hcX hc0 r0 r1 r2 z0 z1 z2
  refine cN.mono ?_
  clear cN
  rintro e W2 ⟨rfl, hG, B2, hR2, hI2⟩
  obtain ⟨k1, k2, k3, k4⟩ := KEY.out W2 hG
  obtain ⟨q0, q1, q2, q3, p0, p1, p2, p3⟩ := box4 k1
  obtain ⟨i0, i1, i2, i3, j0, j1, j2, j3⟩ := box4 k2
  have hrl : r'.length ≤ 65536 := by have := (rdNum_length r 0 0 n r' HRN.out).1; omega
  obtain ⟨A2, cap2, rfl⟩ := hI2.form
  obtain ⟨l2, hl2⟩ : ∃ l2, r'.length = l2 := ⟨_, rfl⟩
  rw [hl2] at hI2 hR2 hrl hend
  obtain ⟨r0, r1, r2, z0, z1, z2⟩ := hR2.cells
  have hhne : ¬ w.heap.size + 1 = w.heap.size := by omega
  have hhne2 : ¬ w.heap.size = w.heap.size + 1 := by omega
  have hrne2 : ¬ w.heap.size + 1 = rb := by omega
  have HR2 := Lib.hid hR2
  have HI2 := Lib.hid hI2
  have K3 := Lib.hid k3
  have K2 := Lib.hid k2
  have HL2 := Lib.hid hl2
  clear hG hR2 hI2 KEY k2 k1 k3 hl2 HRUN HW5 HRN

  have hl2b : (l2 : Int) ≤ 65536 := by omega
  have hnb : (n : Int) ≤ 65536 := by omega
  have heI : decide ((l2 : Int) < (n : Int)) = false := by simp only [decide_eq_false_iff_not]; omega
  have heN : decide (l2 < n) = false := by simp only [decide_eq_false_iff_not]; omega
  have hb63 : decide ((9223372036854775807 : Int) < (n : Int)) = false := by simp only [decide_eq_false_iff_not]; omega
  obtain ⟨BA, hrunA, hBA⟩ := run_ahead HI2.out .u64 hend
  obtain ⟨BB, hrunB, hBB⟩ := run_behind HI2.out .u64 hend
  obtain ⟨AA, capA, rfl⟩ := hBA.form
  obtain ⟨AB, capB, rfl⟩ := hBB.form
  have cs := run_string_bytes (P := Tryz.prog) W2 Tryz.underlying29 Tryz.underlying5 Tryz.underlying9 hBA
  have HA := Lib.hid hrunA
  have HB := Lib.hid hrunB
  have HBB := Lib.hid hBB
  obtain ⟨lA, hlA⟩ : ∃ lA, (List.take n r').length = lA := ⟨_, rfl⟩
  obtain ⟨lB, hlB⟩ : ∃ lB, (List.drop n r').length = lB := ⟨_, rfl⟩
  rw [hlA] at cs HA
  rw [hlB] at HBB HB
  rw [HSS.out] at cs
  clear hrunA hrunB hBA hBB hlA hlB HSS
  go_wp2_with (first | (refine wpList_slice_ran (o := ⟨some 112, _, _, _, _, _⟩) rfl _ _ _ _ _ rfl rfl rfl rfl rfl (HA.out _) ?_) | (refine wpList_slice_ran (o := ⟨some 121, _, _, _, _, _⟩) rfl _ _ _ _ _ rfl rfl rfl rfl rfl (HB.out _) ?_))
  trace "K1B"
  refine bodyPost_ret (v := aggOf (.mk 1 0 SS []) (.slice none 0 0)) (by simp [aggOf, Item.kind, Item.n, Item.s, results, Tryz.results121, go_sem, q0, q1, q2, q3]) rfl ?_
  refine ⟨.slice none 0 0, .slice AB lB capB, rfl, ?_, ?_, ?_, Items.nil none 0 [] (fun _ => rfl) rfl⟩
  · exact grown_put4 (grown_set (i := 0) (grown_put K3.out (Nat.le_succ _) _) _) (Nat.le_refl _) _ _ _ _
  · exact rd_put4 ((rd_put HR2.out (by omega) _).set0 _) (by omega) _ _ _ _
  · exact by_put4 (by_put (by_put HBB.out (by omega) _) hn _) (by omega) _ _ _ _

end Go.Proofs.YtdikmlnpclklnaaGreatDoor.Wire

/-
  The document's own reading of an item.
-/
namespace Go.Proofs.YtdikmlnpclklnaaGreatDoor.Wire
open Go Go.RowKit Go.Proofs.YtdikmlnpclklnaaGreatDoor.Law

set_option maxRecDepth 100000 in
set_option maxHeartbeats 8000000 in
theorem refitem_calls : ∀ (b : Nat), ∀ (d rb n₀ c : Nat) (B : Value) (bs : List Nat) (w : World), d + b = 9 → bs.length ≤ 65536 → c ≤ 4096 → Rd w rb B c 0 → Bytes n₀ w B bs → n₀ ≤ rb →
    Calls Tryz.prog 121 #[.pointer (some ⟨rb, 0, none⟩), .int .i64 (d : Nat)] w (ItemRead w rb n₀ (rdI b c bs)) := by
  intro b
  induction b with
  | zero =>
    intro d rb n₀ c B bs w hd hlen hc hR hI hn
    obtain rfl : d = 9 := by omega
    obtain ⟨r0, r1, r2, z0, z1, z2⟩ := hR.cells
    have hrb := lt_of_some hR
    have hne : ¬ rb = w.heap.size := by omega
    have HR := Lib.hid hR
    clear hR hI
    by_cases hbig : 4096 < c + 1
    · have hbI : 4096 < (c : Int) + 1 := by omega
      go_enter Tryz.func121, Tryz.ntmps121
      go_wp2
      exact bodyPost_ret (v := zeroItem) (by simp [results, Tryz.results121, go_sem]) rfl (err_early HR.out 2)
    · have hbI : ¬ 4096 < (c : Int) + 1 := by omega
      go_enter Tryz.func121, Tryz.ntmps121
      go_wp2
      exact bodyPost_ret (v := zeroItem) (by simp [results, Tryz.results121, go_sem]) rfl (err_early HR.out 2)
  | succ b ih =>
    intro d rb n₀ c B bs w hd hlen hc hR hI hn
    obtain ⟨r0, r1, r2, z0, z1, z2⟩ := hR.cells
    have hrb := lt_of_some hR
    have hne : ¬ rb = w.heap.size := by omega
    have hne2 : ¬ rb = w.heap.size + 1 := by omega
    obtain ⟨A, cap, rfl⟩ := hI.form
    obtain ⟨len, hlen0⟩ : ∃ len, bs.length = len := ⟨_, rfl⟩
    have hcap := hI.capOk
    rw [hlen0] at hI hlen hR hcap r0
    have HR := Lib.hid hR
    have HI := Lib.hid hI
    have HL := Lib.hid hlen0
    clear hR hI hlen0
    have hdI : ¬ 8 < (d : Int) := by omega
    by_cases hbig : 4096 < c + 1
    · have hbI : 4096 < (c : Int) + 1 := by omega
      have hspec : rdI (b + 1) c bs = .error 2 := by rw [rdI, if_pos hbig]
      rw [hspec]
      clear hspec
      go_enter Tryz.func121, Tryz.ntmps121
      go_wp2
      exact bodyPost_ret (v := zeroItem) (by simp [results, Tryz.results121, go_sem]) rfl (err_early HR.out 2)
    · have hbI : ¬ 4096 < (c : Int) + 1 := by omega
      match hbs : bs with
      | [] =>
        obtain rfl : 0 = len := by simpa using HL.out
        have hspec : rdI (b + 1) c [] = .error 5 := by rw [rdI, if_neg hbig]; rfl
        rw [hspec]
        clear hspec ih
        go_enter Tryz.func121, Tryz.ntmps121
        go_wp2
        exact bodyPost_ret (v := zeroItem) (by simp [results, Tryz.results121, go_sem]) rfl (err_early HR.out 5)
      | x0 :: r =>
        have hl1 : r.length + 1 = len := by simpa using HL.out
        obtain ⟨bk, off, rfl, hbk, hcl⟩ := HI.out.cells (by omega)
        have hc0 := hcl 0 (by omega)
        rw [Nat.add_zero, show (x0 :: r).getD 0 0 = x0 from rfl] at hc0
        have hx256 : x0 < 256 := HI.out.lt x0 (by simp)
        have hlI : ¬ (len : Int) = 0 := by omega
        have hlI2 : 0 < (len : Int) := by omega
        have hneb : ¬ bk = rb := by omega
        have hcX : ∀ (v : Value) (o : Obj), ((w.setCell ⟨rb, 1, none⟩ v).alloc o).cell? ⟨bk, off, none⟩ = some (.int .u8 (x0 : Nat)) := fun v o => by
          have h1 : (w.setCell ⟨rb, 1, none⟩ v).cell? ⟨bk, off, none⟩ = some (.int .u8 (x0 : Nat)) := (World.cell?_of_block (a := ⟨bk, off, none⟩) (Below.heap_setCell _ _ _ _ hneb)).trans hc0
          exact (World.cell?_of_block (a := ⟨bk, off, none⟩) (Below.heap_alloc _ _ _ (block_lt_cell h1))).trans h1
        clear hcl
        by_cases hk2 : 2 < x0
        · have hkI : 2 < (x0 : Int) := by omega
          have hspec : rdI (b + 1) c (x0 :: r) = .error 3 := by rw [rdI, if_neg hbig]; simp only [rdHead, if_pos hk2]
          rw [hspec]
          clear hspec ih
          go_enter Tryz.func121, Tryz.ntmps121
          go_wp2
          exact bodyPost_ret (v := zeroItem) (by simp [results, Tryz.results121, go_sem]) rfl (err_boxed HR.out 3 _)
        · have hT : ¬ (x0 = 1 ∧ ∃ n r', rdNum 0 0 r = .ok (n, r') ∧ n ≤ r'.length ∧ n ≤ 9223372036854775807) ∨ (x0 = 1 ∧ ∃ n r', rdNum 0 0 r = .ok (n, r') ∧ n ≤ r'.length ∧ n ≤ 9223372036854775807) := (Classical.em _).symm
          have hG : ¬ (x0 = 2 ∧ ∃ n r', rdNum 0 0 r = .ok (n, r') ∧ n ≤ 9223372036854775807) ∨ (x0 = 2 ∧ ∃ n r', rdNum 0 0 r = .ok (n, r') ∧ n ≤ 9223372036854775807) := (Classical.em _).symm
          rcases hT with hT | ⟨rfl, n, r', hq, hle, h63⟩
          rotate_left
          · have hspec : rdI (b + 1) c (1 :: r) = .ok (.mk 1 0 (str (r'.take n)) [], c + 1, r'.drop n) := by
              rw [rdI, if_neg hbig]
              simp [rdHead, hq, show ¬ 9223372036854775807 < n by omega, show ¬ r'.length < n by omega]
            rw [hspec]
            exact reftext_calls d rb n₀ c n _ r r' _ w (by omega) (by omega) (by omega) HR.out HI.out hn hq hle rfl
          rcases hG with hG | ⟨rfl, n, r', hq, h63⟩
          rotate_left
          · have hspec : rdI (b + 1) c (2 :: r) = listOf (rdL (rdI b) n (c + 1) r' []) := by
              rw [rdI, if_neg hbig]
              simp only [rdHead, hq, show ¬ (2 < 2) by omega, show ¬ ((2 : Nat) ≠ 0 ∧ 9223372036854775807 < n) by omega, if_false, show ¬ ((2 : Nat) = 0) by omega, show ¬ ((2 : Nat) = 1) by omega]
              rfl
            rw [hspec]
            exact reflist_calls b d rb n₀ c n _ r r' w (by omega) (by omega) (by omega) HR.out HI.out hn hq h63 (fun c' B' bs' W h1 h2 h3 h4 => by
              have h := ih (d + 1) rb n₀ c' B' bs' W (by omega) h1 h2 h3 h4 hn
              rwa [show (((d + 1 : Nat) : Int)) = (d : Int) + 1 from by omega] at h)
          have HT := Lib.hid hT
          have HG2 := Lib.hid hG
          clear hT hG
          have hkI : ¬ 2 < (x0 : Int) := by omega
          obtain ⟨B1, hrun, hB1⟩ := run_behind HI.out .i64 (show 1 ≤ len by omega)
          have hrun1 : ∀ w', (Instr.sliceAt 29 (.slice (some ⟨bk, off, none⟩) len cap) (some (.int .i64 1)) none none).run Tryz.prog w' = .ok B1 w' := fun w' => by simpa using hrun w'
          replace hB1 : Bytes n₀ w B1 r := hB1
          obtain ⟨A1, cap1, rfl⟩ := hB1.form
          obtain ⟨lr, hlr⟩ : ∃ lr, r.length = lr := ⟨_, rfl⟩
          rw [hlr] at hB1 hrun1
          have HRUN := Lib.hid hrun1
          have hW5 : ∀ (v : Value) (o : Obj), v = .int .i64 ((c : Int) + 1) → Rd ((((w.setCell ⟨rb, 1, none⟩ v).setCell ⟨rb, 0, none⟩ (.slice A1 lr cap1)).alloc zeroBox).alloc o) rb (.slice A1 lr cap1) (c + 1) 0 ∧ Bytes n₀ ((((w.setCell ⟨rb, 1, none⟩ v).setCell ⟨rb, 0, none⟩ (.slice A1 lr cap1)).alloc zeroBox).alloc o) (.slice A1 lr cap1) r ∧
              ((((w.setCell ⟨rb, 1, none⟩ v).setCell ⟨rb, 0, none⟩ (.slice A1 lr cap1)).alloc zeroBox).alloc o).heap[w.heap.size]? = some zeroBox ∧ ((((w.setCell ⟨rb, 1, none⟩ v).setCell ⟨rb, 0, none⟩ (.slice A1 lr cap1)).alloc zeroBox).alloc o).heap[w.heap.size + 1]? = some o ∧
              w.grownBy ((((w.setCell ⟨rb, 1, none⟩ v).setCell ⟨rb, 0, none⟩ (.slice A1 lr cap1)).alloc zeroBox).alloc o) (some rb) ∧ ((((w.setCell ⟨rb, 1, none⟩ v).setCell ⟨rb, 0, none⟩ (.slice A1 lr cap1)).alloc zeroBox).alloc o).heap.size = w.heap.size + 2 := fun v o hv => by
            have hsz : ((w.setCell ⟨rb, 1, none⟩ v).setCell ⟨rb, 0, none⟩ (.slice A1 lr cap1)).heap.size = w.heap.size := by simp [World.setCell]
            refine ⟨Rd.below ((HR.out.set1 (c + 1) hv).set0 (.slice A1 lr cap1)) (((Below.refl _ _).alloc (Nat.le_refl _) _).alloc (by simp) _), ?_, ?_, ?_, ?_, ?_⟩
            · exact Bytes.below ((((((Below.refl n₀ w).setCell (p := ⟨rb, 1, none⟩) hn v).setCell (p := ⟨rb, 0, none⟩) hn (.slice A1 lr cap1))).alloc (by rw [hsz]; omega) _).alloc (by simp [hsz]; omega) _) hB1
            · have h := heap_alloc_new ((w.setCell ⟨rb, 1, none⟩ v).setCell ⟨rb, 0, none⟩ (.slice A1 lr cap1)) zeroBox
              rw [hsz] at h
              rw [Below.heap_alloc _ _ _ (by simp [hsz])]; exact h
            · have h := heap_alloc_new (((w.setCell ⟨rb, 1, none⟩ v).setCell ⟨rb, 0, none⟩ (.slice A1 lr cap1)).alloc zeroBox) o
              rw [World.size_alloc, hsz] at h
              exact h
            · exact grown_alloc (grown_alloc (grown_set (i := 0) (grown_set (i := 1) (grown_refl _ _) _) _) _) _
            · rw [World.size_alloc, World.size_alloc, hsz]
          have HW5 := Lib.hid hW5
          have HLR := Lib.hid hlr
          clear hW5 hrun hrun1 hB1 hlr
          have hnn1 : ¬ w.heap.size = rb := by omega
          go_enter Tryz.func121, Tryz.ntmps121
          go_wp2_with (refine wpList_slice_ran (o := ⟨some 59, _, _, _, _, _⟩) rfl _ _ _ _ _ rfl rfl rfl rfl rfl (HRUN.out _) ?_)
          obtain ⟨g1, g2, g3, g4, g5, g6⟩ := HW5.out _ (.cells #[.int .i64 (x0 : Nat), .int .i64 0, .string ⟨#[]⟩, .slice none 0 0] 145) rfl
          have cN := refnumber_calls rb n₀ (c + 1) (.slice A1 lr cap1) r (by omega) _ g1 g2 hn
          obtain ⟨RN, hRN⟩ : ∃ RN, rdNum 0 0 r = RN := ⟨_, rfl⟩
          rw [hRN] at cN
          have HRN := Lib.hid hRN
          have key : ∀ (W2 : World), ((((w.setCell ⟨rb, 1, none⟩ (.int .i64 ((c : Int) + 1))).setCell ⟨rb, 0, none⟩ (.slice A1 lr cap1)).alloc zeroBox).alloc (.cells #[.int .i64 (x0 : Nat), .int .i64 0, .string ⟨#[]⟩, .slice none 0 0] 145)).grownBy W2 (some rb) →
              W2.heap[w.heap.size]? = some zeroBox ∧ W2.heap[w.heap.size + 1]? = some (.cells #[.int .i64 (x0 : Nat), .int .i64 0, .string ⟨#[]⟩, .slice none 0 0] 145) ∧ w.grownBy W2 (some rb) ∧ w.heap.size + 2 ≤ W2.heap.size := fun W2 hG =>
            ⟨(hG.block _ (by rw [g6]; omega) (by simp; omega)).trans g3, (hG.block _ (by rw [g6]; omega) (by simp; omega)).trans g4, g5.trans hG, by have := hG.size; omega⟩
          have KEY := Lib.hid key
          clear key hRN g1 g2 g3 g4 g5 g6 hcX hc0 r0 r1 r2 z0 z1 z2
          refine cN.mono ?_
          clear cN
          rintro e W2 hN
          cases RN with
          | error k' =>
            obtain ⟨rfl, hG, hR2⟩ := hN
            obtain ⟨k1, k2, k3, k4⟩ := KEY.out W2 hG
            obtain ⟨q0, q1, q2, q3, p0, p1, p2, p3⟩ := box4 k1
            obtain ⟨_, _, r2, _, _, _⟩ := hR2.cells
            have hkne : ¬ (k' : Int) = 0 := by have := rdNum_err _ _ _ _ HRN.out; omega
            have hspec : rdI (b + 1) c (x0 :: r) = .error k' := by rw [rdI, if_neg hbig]; simp only [rdHead, if_neg hk2, HRN.out]
            have HSPEC := Lib.hid hspec
            have HR2 := Lib.hid hR2
            have K3 := Lib.hid k3
            clear hspec hG hR2 KEY k2 k1 ih k3
            go_wp2
            refine bodyPost_ret (v := zeroItem) (by simp [results, Tryz.results121, go_sem, q0, q1, q2, q3]) rfl ?_
            rw [HSPEC.out]
            exact ⟨_, c + 1, rfl, grown_put4 K3.out (Nat.le_refl _) _ _ _ _, rd_put4 HR2.out (by omega) _ _ _ _⟩
          | ok q =>
            obtain ⟨n, r'⟩ := q
            obtain ⟨rfl, hG, B2, hR2, hI2⟩ := hN
            obtain ⟨k1, k2, k3, k4⟩ := KEY.out W2 hG
            obtain ⟨q0, q1, q2, q3, p0, p1, p2, p3⟩ := box4 k1
            obtain ⟨i0, i1, i2, i3, j0, j1, j2, j3⟩ := box4 k2
            obtain ⟨r0, r1, r2, z0, z1, z2⟩ := hR2.cells
            have hn64 : n < 18446744073709551616 := rdNum_lt r 0 0 n r' (by omega) (by decide) HRN.out
            have hrl : r'.length ≤ 65536 := by have := (rdNum_length r 0 0 n r' HRN.out).1; have := HLR.out; omega
            have hnh : (n : Int) < 18446744073709551616 := by omega
            have hhne : ¬ w.heap.size + 1 = w.heap.size := by omega
            have hhne2 : ¬ w.heap.size = w.heap.size + 1 := by omega
            have hrne2 : ¬ w.heap.size + 1 = rb := by omega
            have HR2 := Lib.hid hR2
            have HI2 := Lib.hid hI2
            have K3 := Lib.hid k3
            have K2 := Lib.hid k2
            have HN64 := Lib.hid hn64
            clear hG hR2 hI2 KEY k2 k1 k3 hn64
            by_cases hk0 : x0 = 0
            · subst hk0
              have hspec : rdI (b + 1) c (0 :: r) = .ok (.mk 0 (unzig n) noT [], c + 1, r') := by rw [rdI, if_neg hbig]; simp [rdHead, HRN.out]
              have HSPEC := Lib.hid hspec
              clear hspec ih
              have HRB := Lib.hid hrb
              by_cases hodd : n % 2 = 1
              · have hoI : (n : Int) % 2 = 1 := by omega
                have hval : unzig n = -((n : Int) / 2) - 1 := by unfold unzig; rw [if_pos hodd]; simp
                have HVAL := Lib.hid hval
                clear hodd hval
                go_wp2
                refine bodyPost_ret (v := aggOf (.mk 0 (-((n : Int) / 2) - 1) noT []) (.slice none 0 0)) (by simp [aggOf, noT, Item.kind, Item.n, Item.s, results, Tryz.results121, go_sem, q0, q1, q2, q3]) rfl ?_
                rw [HSPEC.out, HVAL.out]
                exact ⟨_, B2, rfl, grown_put4 (grown_put (grown_put K3.out (Nat.le_succ _) _) (Nat.le_succ _) _) (Nat.le_refl _) _ _ _ _, rd_put4 (rd_put (rd_put HR2.out (by omega) _) (by omega) _) (by omega) _ _ _ _, by_put4 (by_put (by_put HI2.out (by omega) _) (by omega) _) (by omega) _ _ _ _, .nil none 0 _ (fun _ => rfl) rfl⟩
              · have hoI : (n : Int) % 2 = 0 := by omega
                have hval : unzig n = (n : Int) / 2 := by unfold unzig; rw [if_neg hodd]; simp
                have HVAL := Lib.hid hval
                clear hodd hval
                go_wp2
                refine bodyPost_ret (v := aggOf (.mk 0 ((n : Int) / 2) noT []) (.slice none 0 0)) (by simp [aggOf, noT, Item.kind, Item.n, Item.s, results, Tryz.results121, go_sem, q0, q1, q2, q3]) rfl ?_
                rw [HSPEC.out, HVAL.out]
                exact ⟨_, B2, rfl, grown_put4 (grown_put K3.out (Nat.le_succ _) _) (Nat.le_refl _) _ _ _ _, rd_put4 (rd_put HR2.out (by omega) _) (by omega) _ _ _ _, by_put4 (by_put HI2.out (by omega) _) (by omega) _ _ _ _, .nil none 0 _ (fun _ => rfl) rfl⟩
            · rcases (show x0 = 1 ∨ x0 = 2 by omega) with rfl | rfl
              · clear hk0
                by_cases hbn : 9223372036854775807 < n
                · have hbnI : decide ((9223372036854775807 : Int) < (n : Int)) = true := by simp only [decide_eq_true_eq]; omega
                  have hspec : rdI (b + 1) c (1 :: r) = .error 3 := by rw [rdI, if_neg hbig]; simp [rdHead, HRN.out, hbn]
                  have HSPEC := Lib.hid hspec
                  clear hspec ih hbn
                  go_wp2
                  refine bodyPost_ret (v := zeroItem) (by simp [results, Tryz.results121, go_sem, q0, q1, q2, q3]) rfl ?_
                  rw [HSPEC.out]
                  exact ⟨_, c + 1, rfl, grown_put4 (grown_set (i := 2) K3.out _) (Nat.le_refl _) _ _ _ _, rd_put4 (HR2.out.set2 3 rfl) (by omega) _ _ _ _⟩
                · have hbnI : decide ((9223372036854775807 : Int) < (n : Int)) = false := by simp only [decide_eq_false_iff_not]; omega
                  obtain ⟨A2, cap2, rfl⟩ := HI2.out.form
                  obtain ⟨l2, hl2⟩ : ∃ l2, r'.length = l2 := ⟨_, rfl⟩
                  have hI2 := HI2.out
                  rw [hl2] at hI2 r0
                  clear HI2
                  have HI2 := Lib.hid hI2
                  have hR2 := HR2.out
                  rw [hl2] at hR2
                  clear HR2
                  have HR2 := Lib.hid hR2
                  have HL2 := Lib.hid hl2
                  have hl2b : (l2 : Int) ≤ 65536 := by omega
                  have HBN := Lib.hid hbn
                  clear hI2 hR2 hl2 hrl hbn
                  by_cases hend : l2 < n
                  · have heI : (l2 : Int) < (n : Int) := by omega
                    have hspec : rdI (b + 1) c (1 :: r) = .error 5 := by rw [rdI, if_neg hbig]; simp [rdHead, HRN.out, HBN.out, HL2.out, hend]
                    have HSPEC := Lib.hid hspec
                    clear hspec ih hend
                    go_wp2
                    refine bodyPost_ret (v := zeroItem) (by simp [results, Tryz.results121, go_sem, q0, q1, q2, q3]) rfl ?_
                    rw [HSPEC.out]
                    exact ⟨_, c + 1, rfl, grown_put4 (grown_set (i := 2) K3.out _) (Nat.le_refl _) _ _ _ _, rd_put4 (HR2.out.set2 5 rfl) (by omega) _ _ _ _⟩
                  · exact absurd ⟨rfl, n, r', HRN.out, by rw [HL2.out]; omega, by have := HBN.out; omega⟩ HT.out
              · clear hk0
                by_cases hbn : 9223372036854775807 < n
                · have hbnI : decide ((9223372036854775807 : Int) < (n : Int)) = true := by simp only [decide_eq_true_eq]; omega
                  have hspec : rdI (b + 1) c (2 :: r) = .error 3 := by rw [rdI, if_neg hbig]; simp [rdHead, HRN.out, hbn]
                  have HSPEC := Lib.hid hspec
                  clear hspec ih hbn
                  go_wp2
                  refine bodyPost_ret (v := zeroItem) (by simp [results, Tryz.results121, go_sem, q0, q1, q2, q3]) rfl ?_
                  rw [HSPEC.out]
                  exact ⟨_, c + 1, rfl, grown_put4 (grown_set (i := 2) K3.out _) (Nat.le_refl _) _ _ _ _, rd_put4 (HR2.out.set2 3 rfl) (by omega) _ _ _ _⟩
                · exact absurd ⟨rfl, n, r', HRN.out, by omega⟩ HG2.out

end Go.Proofs.YtdikmlnpclklnaaGreatDoor.Wire

/-
  The document's own Decode.
-/
namespace Go.Proofs.YtdikmlnpclklnaaGreatDoor.Wire
open Go Go.RowKit Go.Proofs.YtdikmlnpclklnaaGreatDoor.Law

/-- What Decode answers. -/
def Decoded (base : Nat) (w : World) (R : List Item × Nat) (e : Ending) (W : World) : Prop :=
  ∃ u, e = .returned (.tuple #[u, .int .i64 (R.2 : Nat)]) ∧ Below base w W ∧ Items (fun b => base ≤ b ∧ b < W.heap.size) W u R.1

/-- What lies ahead of an item of the message. -/
def TS (w : World) (base : Nat) (RT : Except Nat (List Item)) (u : Value) (W : World) : Prop :=
  ∃ f c B bs acc, rdTop f c bs acc = RT ∧ 4097 ≤ f + c ∧ c ≤ 4096 ∧ acc.length ≤ c ∧ bs.length ≤ 65536 ∧ Rd W base B c 0 ∧ Bytes base W B bs ∧ Below base w W ∧ Grow (base + 1) W.heap.size W u acc

theorem top_more {w W W2 : World} {base f c c' : Nat} {B' u u' : Value} {bs' : List Nat} {acc : List Item} {x : Item} {RT : Except Nat (List Item)} (hsz : base < W.heap.size)
    (hR : rdTop f c' bs' (acc ++ [x]) = RT) (hf : 4097 ≤ f + c') (hc : c < c') (hc' : c' ≤ 4096) (hacc : acc.length ≤ c) (hbs : bs'.length ≤ 65536) (hB : Below base w W) (hGr : Grow (base + 1) W.heap.size W u acc)
    (hG2 : W.grownBy W2 (some base)) (hRd : Rd W2 base B' c' 0) (hBy : Bytes base W2 B' bs') (hu : Items (fun b => W.heap.size ≤ b ∧ b < W2.heap.size) W2 u' x.kids) (ty : TypeId) (o : Obj) :
    ∃ v' W', (Builtin.append_ #[143, 143] ty #[u, .slice (some ⟨W2.heap.size + 1, 0, none⟩) 1 1]).run Tryz.prog ((W2.alloc o).alloc (.cells #[.int .i64 x.kind, .int .i64 x.n, .string x.s, u'] 145)) = .ok v' W' ∧
      (∃ A l cap, v' = .slice A l cap) ∧ TS w base RT v' W' ∧ W'.cell? ⟨base, 1, none⟩ = some (.int .i64 (c' : Nat)) := by
  have hW2 := hG2.size
  have hGr2 : Grow (base + 1) W.heap.size (W2.alloc o) u acc := hGr.keep (fun b h1 h2 => (Below.heap_alloc _ _ _ (by omega)).trans (hG2.block b h2 (by simp; omega))) (Nat.le_refl _) (by simp; omega)
  have hgo := hGr.own
  obtain ⟨v', W', hrun, hGr', hG', hor⟩ := hGr2.append (by omega) x u' (hu.keep (fun b hb => Below.heap_alloc _ _ _ hb.2) (fun b hb => ⟨by omega, by simp; omega, fun e => by have := (hgo b e).2; omega⟩)) ty (by omega)
  have hsz2 : W2.heap.size + 1 ≤ W'.heap.size := by have := hG'.size; simpa using this
  have hkeep : ∀ j, j < base + 1 → W'.heap[j]? = W2.heap[j]? := fun j hj => (hG'.block j (by simp; omega) (fun e => by have := (hgo j e.symm).1; omega)).trans (Below.heap_alloc _ _ _ (by omega))
  have hRd' : Rd W' base B' c' 0 := (hkeep base (by omega)).trans hRd
  have b1 : Below base W W2 := (Below.refl _ _).grown hG2 (by omega) (fun k hk => by cases hk; omega)
  have b2 : Below base W2 (W2.alloc o) := (Below.refl _ _).alloc (by omega) _
  have b3 : Below base W2 W' := b2.grown hG' (by simp; omega) (fun k hk => by have := (hgo k hk).1; omega)
  refine ⟨v', W', by simpa using hrun, (by obtain ⟨A, cap, h, _⟩ := hGr'.form; exact ⟨A, _, cap, h⟩), ⟨f, c', B', bs', acc ++ [x], hR, hf, hc', by simp; omega, hbs, hRd', hBy.below b3, hB.trans (b1.trans b3), hGr'⟩, hRd'.cells.2.1⟩

theorem below_drewN2 {B : Nat} {a w : World} (h : Below B a w) (n : Nat) : Below B a (w.drewN n) := ⟨h.os, h.tape, h.output, h.size, h.block⟩

set_option maxRecDepth 100000 in
set_option maxHeartbeats 8000000 in
theorem refdecode_calls (bs : List Nat) (hlong : bs.length ≤ 140737488355000) (sv : Value) (w : World) (hI : Bytes w.heap.size w sv bs) :
    Calls Tryz.prog 99 #[sv] w (Decoded w.heap.size w (decR bs)) := by
  obtain ⟨R, hRR⟩ : ∃ R, decR bs = R := ⟨_, rfl⟩
  obtain ⟨RT, hRT⟩ : ∃ RT, rdTop 4097 0 bs [] = RT := ⟨_, rfl⟩
  rw [hRR]
  obtain ⟨A, cap, rfl⟩ := hI.form
  obtain ⟨len, hlen⟩ : ∃ len, bs.length = len := ⟨_, rfl⟩
  rw [hlen] at hI hlong ⊢
  obtain ⟨base, hbase⟩ : ∃ b, w.heap.size = b := ⟨_, rfl⟩
  rw [hbase] at hI ⊢
  have HI := Lib.hid hI
  have HRR := Lib.hid hRR
  have HRT := Lib.hid hRT
  have HL := Lib.hid hlen
  have HBS := Lib.hid hbase
  clear hI hRR hRT hlen
  by_cases hbig : 65536 < len
  · have hR : R = ([], 2) := by rw [← HRR.out, decR, decN, if_pos (by rw [HL.out]; exact hbig)]; rfl
    have HR := Lib.hid hR
    have hbI : 65536 < (len : Int) := by omega
    clear hR hbase
    go_enter Tryz.func99, Tryz.ntmps99
    go_wp2_with fail
    go_ret2
    rw [HR.out]
    exact ⟨.slice none 0 0, rfl, Below.refl _ _, .nil none 0 _ (fun _ => rfl) rfl⟩
  · have hR : R = decOf RT := by rw [← HRR.out, decR, decN, if_neg (by rw [HL.out]; exact hbig), HRT.out]
    have HR := Lib.hid hR
    have hbI : (len : Int) ≤ 65536 := by omega
    have hstart : TS w base RT (.slice none 0 0) (w.alloc (.cells #[.slice A len cap, .int .i64 0, .int .i64 0] 185)) := by
      refine ⟨4097, 0, .slice A len cap, bs, [], HRT.out, by omega, by omega, by simp, by rw [HL.out]; omega, ?_, ?_, ?_, ?_⟩
      · have := heap_alloc_new w (.cells #[.slice A len cap, .int .i64 0, .int .i64 0] 185)
        rw [hbase] at this
        exact this
      · exact HI.out.below ((Below.refl _ _).alloc (by omega) _)
      · exact (Below.refl _ _).alloc (by omega) _
      · exact Grow.nil _ _ _ (Nat.le_refl _)
    have HST := Lib.hid hstart
    have hbs2 : base = w.heap.size := hbase.symm
    clear hR hbase hstart
    have HBS2 := Lib.hid hbs2
    clear hbs2
    go_enter Tryz.func99, Tryz.ntmps99
    go_wp2_with fail
    trace "HEAD"
    rw [HBS.out]
    go_loopw [5] (fun u wr => (∃ A l cap, u = .slice A l cap) ∧ TS w base RT u wr) (fun _ wr => 4096 - (intOf ((wr.cell? ⟨base, 1, none⟩).getD undef)).toNat)
    case atStart => exact ⟨⟨_, _, _, rfl⟩, HST.out⟩
    case round =>
      obtain ⟨⟨Au, lu, cu, rfl⟩, hTS⟩ := hrel
      obtain ⟨f, c, B, bs1, acc, h1, h2, h3, h4, h5, h6, h7, h8, h9⟩ := hTS
      obtain ⟨f, rfl⟩ : ∃ f', f = f' + 1 := ⟨f - 1, by omega⟩
      have hsz := lt_of_some h6
      obtain ⟨A1, cap1, rfl⟩ := h7.form
      obtain ⟨r0, r1, r2, z0, z1, z2⟩ := h6.cells
      by_cases hnil : bs1 = []
      · subst hnil
        rw [rdTop, if_pos rfl] at h1
        have hE : R = (acc, 0) := by rw [HR.out, ← h1]; rfl
        have HE := Lib.hid hE
        have H8 := Lib.hid h8
        have H9 := Lib.hid h9
        clear h1 h2 h3 h4 h5 h6 h7 h8 h9 hE
        simp only [List.length_nil] at r0
        go_wp2_with fail
        go_ret2
        rw [HE.out]
        exact ⟨_, rfl, H8.out, H9.out.items.mono (fun b hb => ⟨by omega, hb.2⟩)⟩
      · rw [rdTop, if_neg hnil] at h1
        obtain ⟨l1, hl1⟩ : ∃ l1, bs1.length = l1 := ⟨_, rfl⟩
        have hpos : 0 < l1 := by
          rw [← hl1]; exact List.length_pos_iff.2 hnil
        have cI := refitem_calls 8 1 base base c _ bs1 wr rfl h5 h3 h6 h7 (Nat.le_refl _)
        obtain ⟨RI, hRI⟩ : ∃ RI, rdI 8 c bs1 = RI := ⟨_, rfl⟩
        rw [hRI] at cI h1
        rw [show ((1 : Nat) : Int) = 1 from rfl] at cI
        rw [hl1] at r0
        have hposI : 0 < (l1 : Int) := by omega
        have HCI := Lib.hid cI
        have H1 := Lib.hid h1
        have HRI := Lib.hid hRI
        have H2 := Lib.hid h2
        have H3 := Lib.hid h3
        have H4 := Lib.hid h4
        have H5 := Lib.hid h5
        have H8 := Lib.hid h8
        have H9 := Lib.hid h9
        have HC1 := Lib.hid r1
        clear cI h1 hRI h2 h3 h4 h5 h6 h7 h8 h9 hl1 hnil r1
        go_wp2_with fail
        refine HCI.out.mono ?_
        clear HCI
        rintro e w2 hN
        cases RI with
        | error k' =>
          obtain ⟨B', c', rfl, hG2, hRd2⟩ := hN
          have hE : R = ([], k') := by rw [HR.out, ← H1.out]; rfl
          have hk0 := rdI_err _ _ _ _ HRI.out
          have hkI2 : ¬ (k' : Int) = 0 := by omega
          have hrd : ∀ o, Rd (w2.alloc o) base B' c' k' := fun o => hRd2.below ((Below.refl _ _).alloc (Nat.le_refl _) _)
          have rr := fun o => (hrd o).cells.2.2.1
          have hsz2 := hG2.size
          have b1 : Below base wr w2 := (Below.refl _ _).grown hG2 (by omega) (fun k hk => by cases hk; omega)
          have b2 : ∀ o, Below base w (w2.alloc o) := fun o => (H8.out.trans b1).alloc (by omega) o
          have HB2 := Lib.hid b2
          have HE := Lib.hid hE
          clear hrd hG2 hRd2 H1 HRI H8 H9 hE b1 b2
          dsimp only [zeroItem]
          go_wp2_with fail
          go_quiet (fail)
          go_wp2_with fail
          go_ret2
          rw [HE.out]
          exact ⟨.slice none 0 0, rfl, below_drewN2 (HB2.out _) _, .nil none 0 _ (fun _ => rfl) rfl⟩
        | ok q =>
          obtain ⟨x, c', bs'⟩ := q
          obtain ⟨u', B', rfl, hG2, hRd2, hBy2, hIt2⟩ := hN
          obtain ⟨Ax, cx, rfl, _⟩ := hIt2.form
          obtain ⟨lx, hlx⟩ : ∃ lx, x.kids.length = lx := ⟨_, rfl⟩
          rw [hlx] at hIt2 ⊢
          have hcnt := rdI_count _ _ _ _ _ _ HRI.out
          have hsz2 := hG2.size
          obtain ⟨v', W', hrun, ⟨Av, lv, cv, rfl⟩, hTS', hcl⟩ := top_more (by omega) H1.out (by have := H2.out; omega) hcnt.1 hcnt.2.1 H4.out (Nat.le_trans hcnt.2.2 H5.out) H8.out H9.out hG2 hRd2 hBy2 hIt2 143 (.cells #[.int .i64 x.kind, .int .i64 x.n, .string x.s, .slice Ax lx cx] 145)
          have hrd : ∀ o, Rd (w2.alloc o) base B' c' 0 := fun o => hRd2.below ((Below.refl _ _).alloc (Nat.le_refl _) _)
          have rr := fun o => (hrd o).cells.2.2.1
          have HRUN := Lib.hid hrun
          have HTS := Lib.hid hTS'
          have HCL := Lib.hid hcl
          clear hrd hG2 hRd2 hBy2 hIt2 H1 HRI H8 H9 hrun hTS' hlx hcl
          dsimp only [aggOf]
          go_wp2_with (refine wpList_append_ran (o := ⟨some 33, _, _, _, _, _⟩) rfl _ _ _ rfl rfl rfl HRUN.out ?_)
          trace "APP"
          go_roundw
          case rel => exact ⟨⟨_, _, _, rfl⟩, HTS.out⟩
          case measure => rw [HC1.out, HCL.out]; simp [intOf]; omega

end Go.Proofs.YtdikmlnpclklnaaGreatDoor.Wire

/-
  The program's own Decode.
-/
namespace Go.Proofs.YtdikmlnpclklnaaGreatDoor.Wire
open Go Go.RowKit Go.Proofs.YtdikmlnpclklnaaGreatDoor.Law

set_option maxRecDepth 100000 in
set_option maxHeartbeats 4000000 in
theorem decode_calls (bs : List Nat) (hlong : bs.length ≤ 140737488355000) (sv : Value) (w : World) (hI : Bytes w.heap.size w sv bs) :
    Calls Tryz.prog 117 #[sv] w (Decoded w.heap.size w (decR bs)) := by
  obtain ⟨A, cap, rfl⟩ := hI.form
  obtain ⟨len, hlen⟩ : ∃ len, bs.length = len := ⟨_, rfl⟩
  obtain ⟨R, hRR⟩ : ∃ R, decR bs = R := ⟨_, rfl⟩
  rw [hRR]
  rw [hlen] at hI hlong ⊢
  by_cases hbig : 65536 < len
  · have hR : R = ([], 2) := by rw [← hRR, decR, decN, if_pos (by rw [hlen]; exact hbig)]; rfl
    have HR := Lib.hid hR
    have hbI : 65536 < (len : Int) := by omega
    clear hR hI hlen hRR
    go_enter Tryz.func117, Tryz.ntmps117
    go_wp2_with fail
    go_ret2
    rw [HR.out]
    exact ⟨.slice none 0 0, rfl, Below.refl _ _, .nil none 0 _ (fun _ => rfl) rfl⟩
  · have hR : decOf (unw [] [] 0 0 bs) = R := by rw [← hRR, decR, decN, if_neg (by rw [hlen]; exact hbig)]; rfl
    have hbI : (len : Int) ≤ 65536 := by omega
    have hB := (Below.refl w.heap.size w).alloc (Nat.le_refl _) (.cells #[.slice A len cap] 206)
    have cM := message_calls w.heap.size w.heap.size (.slice A len cap) bs (by omega) (w.alloc (.cells #[.slice A len cap] 206)) (heap_alloc_new w _) (hI.below hB) (Nat.le_refl _)
    rw [hR] at cM
    have HCM := Lib.hid cM
    clear cM hR hRR hI hlen hB
    go_enter Tryz.func117, Tryz.ntmps117
    go_wp2_with fail
    refine HCM.out.mono ?_
    clear HCM
    rintro e W ⟨u, rfl, hG, hu⟩
    obtain ⟨Au, cu, rfl, _⟩ := hu.form
    have hfin : Decoded w.heap.size w R (.returned (.tuple #[.slice Au R.1.length cu, .int .i64 (R.2 : Nat)])) W :=
      ⟨_, rfl, ((Below.refl w.heap.size w).alloc (Nat.le_refl _) _).grown hG (by simp) (fun k hk => by cases hk; exact Nat.le_refl _), hu.mono (fun b hb => ⟨by have := hb.1; simp at this; omega, hb.2⟩)⟩
    have HFIN := Lib.hid hfin
    clear hG hu hfin
    go_wp2_with fail
    go_ret2
    exact HFIN.out

end Go.Proofs.YtdikmlnpclklnaaGreatDoor.Wire
