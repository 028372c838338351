/-
  The document's own reading of an item.
-/
import Derived.Test.YtffehnojcajhiaaWireItemText
import Derived.Test.YtffehnojcajhiaaWireItemList
namespace Go.Proofs.Ytffehnojcajhiaa.Wire
open Go Go.RowKit Go.Proofs.Ytffehnojcajhiaa.Law

set_option maxRecDepth 100000 in
set_option maxHeartbeats 8000000 in
theorem refitem_calls : ∀ (b : Nat), ∀ (d rb n₀ c : Nat) (B : Value) (bs : List Nat) (w : World), d + b = 9 → bs.length ≤ 65536 → c ≤ 4096 → Rd w rb B c 0 → Bytes n₀ w B bs → n₀ ≤ rb →
    Calls Try.prog 45 #[.pointer (some ⟨rb, 0, none⟩), .int .i64 (d : Nat)] w (ItemRead w rb n₀ (rdI b c bs)) := by
  intro b
  induction b with
  | zero =>
    intro d rb n₀ c B bs w hd hlen hc hR hI hn
    obtain rfl : d = 9 := by omega
    obtain ⟨r0, r1, r2, z0, z1, z2⟩ := hR.cells
    have hrb := lt_of_some hR
    have hne : ¬ rb = w.heap.size := by omega
    have HR := Lib.hid hR
    clear hR hI
    by_cases hbig : 4096 < c + 1
    · have hbI : 4096 < (c : Int) + 1 := by omega
      go_enter Try.func45, Try.ntmps45
      go_wp2
      exact bodyPost_ret (v := zeroItem) (by simp [results, Try.results45, go_sem]) rfl (err_early HR.out 2)
    · have hbI : ¬ 4096 < (c : Int) + 1 := by omega
      go_enter Try.func45, Try.ntmps45
      go_wp2
      exact bodyPost_ret (v := zeroItem) (by simp [results, Try.results45, go_sem]) rfl (err_early HR.out 2)
  | succ b ih =>
    intro d rb n₀ c B bs w hd hlen hc hR hI hn
    obtain ⟨r0, r1, r2, z0, z1, z2⟩ := hR.cells
    have hrb := lt_of_some hR
    have hne : ¬ rb = w.heap.size := by omega
    have hne2 : ¬ rb = w.heap.size + 1 := by omega
    obtain ⟨A, cap, rfl⟩ := hI.form
    obtain ⟨len, hlen0⟩ : ∃ len, bs.length = len := ⟨_, rfl⟩
    have hcap := hI.capOk
    rw [hlen0] at hI hlen hR hcap r0
    have HR := Lib.hid hR
    have HI := Lib.hid hI
    have HL := Lib.hid hlen0
    clear hR hI hlen0
    have hdI : ¬ 8 < (d : Int) := by omega
    by_cases hbig : 4096 < c + 1
    · have hbI : 4096 < (c : Int) + 1 := by omega
      have hspec : rdI (b + 1) c bs = .error 2 := by rw [rdI, if_pos hbig]
      rw [hspec]
      clear hspec
      go_enter Try.func45, Try.ntmps45
      go_wp2
      exact bodyPost_ret (v := zeroItem) (by simp [results, Try.results45, go_sem]) rfl (err_early HR.out 2)
    · have hbI : ¬ 4096 < (c : Int) + 1 := by omega
      match hbs : bs with
      | [] =>
        obtain rfl : 0 = len := by simpa using HL.out
        have hspec : rdI (b + 1) c [] = .error 5 := by rw [rdI, if_neg hbig]; rfl
        rw [hspec]
        clear hspec ih
        go_enter Try.func45, Try.ntmps45
        go_wp2
        exact bodyPost_ret (v := zeroItem) (by simp [results, Try.results45, go_sem]) rfl (err_early HR.out 5)
      | x0 :: r =>
        have hl1 : r.length + 1 = len := by simpa using HL.out
        obtain ⟨bk, off, rfl, hbk, hcl⟩ := HI.out.cells (by omega)
        have hc0 := hcl 0 (by omega)
        rw [Nat.add_zero, show (x0 :: r).getD 0 0 = x0 from rfl] at hc0
        have hx256 : x0 < 256 := HI.out.lt x0 (by simp)
        have hlI : ¬ (len : Int) = 0 := by omega
        have hlI2 : 0 < (len : Int) := by omega
        have hneb : ¬ bk = rb := by omega
        have hcX : ∀ (v : Value) (o : Obj), ((w.setCell ⟨rb, 1, none⟩ v).alloc o).cell? ⟨bk, off, none⟩ = some (.int .u8 (x0 : Nat)) := fun v o => by
          have h1 : (w.setCell ⟨rb, 1, none⟩ v).cell? ⟨bk, off, none⟩ = some (.int .u8 (x0 : Nat)) := (World.cell?_of_block (a := ⟨bk, off, none⟩) (Below.heap_setCell _ _ _ _ hneb)).trans hc0
          exact (World.cell?_of_block (a := ⟨bk, off, none⟩) (Below.heap_alloc _ _ _ (block_lt_cell h1))).trans h1
        clear hcl
        by_cases hk2 : 2 < x0
        · have hkI : 2 < (x0 : Int) := by omega
          have hspec : rdI (b + 1) c (x0 :: r) = .error 3 := by rw [rdI, if_neg hbig]; simp only [rdHead, if_pos hk2]
          rw [hspec]
          clear hspec ih
          go_enter Try.func45, Try.ntmps45
          go_wp2
          exact bodyPost_ret (v := zeroItem) (by simp [results, Try.results45, go_sem]) rfl (err_boxed HR.out 3 _)
        · have hT : ¬ (x0 = 1 ∧ ∃ n r', rdNum 0 0 r = .ok (n, r') ∧ n ≤ r'.length ∧ n ≤ 9223372036854775807) ∨ (x0 = 1 ∧ ∃ n r', rdNum 0 0 r = .ok (n, r') ∧ n ≤ r'.length ∧ n ≤ 9223372036854775807) := (Classical.em _).symm
          have hG : ¬ (x0 = 2 ∧ ∃ n r', rdNum 0 0 r = .ok (n, r') ∧ n ≤ 9223372036854775807) ∨ (x0 = 2 ∧ ∃ n r', rdNum 0 0 r = .ok (n, r') ∧ n ≤ 9223372036854775807) := (Classical.em _).symm
          rcases hT with hT | ⟨rfl, n, r', hq, hle, h63⟩
          rotate_left
          · have hspec : rdI (b + 1) c (1 :: r) = .ok (.mk 1 0 (str (r'.take n)) [], c + 1, r'.drop n) := by
              rw [rdI, if_neg hbig]
              simp [rdHead, hq, show ¬ 9223372036854775807 < n by omega, show ¬ r'.length < n by omega]
            rw [hspec]
            exact reftext_calls d rb n₀ c n _ r r' _ w (by omega) (by omega) (by omega) HR.out HI.out hn hq hle rfl
          rcases hG with hG | ⟨rfl, n, r', hq, h63⟩
          rotate_left
          · have hspec : rdI (b + 1) c (2 :: r) = listOf (rdL (rdI b) n (c + 1) r' []) := by
              rw [rdI, if_neg hbig]
              simp only [rdHead, hq, show ¬ (2 < 2) by omega, show ¬ ((2 : Nat) ≠ 0 ∧ 9223372036854775807 < n) by omega, if_false, show ¬ ((2 : Nat) = 0) by omega, show ¬ ((2 : Nat) = 1) by omega]
              rfl
            rw [hspec]
            exact reflist_calls b d rb n₀ c n _ r r' w (by omega) (by omega) (by omega) HR.out HI.out hn hq h63 (fun c' B' bs' W h1 h2 h3 h4 => by
              have h := ih (d + 1) rb n₀ c' B' bs' W (by omega) h1 h2 h3 h4 hn
              rwa [show (((d + 1 : Nat) : Int)) = (d : Int) + 1 from by omega] at h)
          have HT := Lib.hid hT
          have HG2 := Lib.hid hG
          clear hT hG
          have hkI : ¬ 2 < (x0 : Int) := by omega
          obtain ⟨B1, hrun, hB1⟩ := run_behind HI.out .i64 (show 1 ≤ len by omega)
          have hrun1 : ∀ w', (Instr.sliceAt 48 (.slice (some ⟨bk, off, none⟩) len cap) (some (.int .i64 1)) none none).run Try.prog w' = .ok B1 w' := fun w' => by simpa using hrun w'
          replace hB1 : Bytes n₀ w B1 r := hB1
          obtain ⟨A1, cap1, rfl⟩ := hB1.form
          obtain ⟨lr, hlr⟩ : ∃ lr, r.length = lr := ⟨_, rfl⟩
          rw [hlr] at hB1 hrun1
          have HRUN := Lib.hid hrun1
          have hW5 : ∀ (v : Value) (o : Obj), v = .int .i64 ((c : Int) + 1) → Rd ((((w.setCell ⟨rb, 1, none⟩ v).setCell ⟨rb, 0, none⟩ (.slice A1 lr cap1)).alloc zeroBox).alloc o) rb (.slice A1 lr cap1) (c + 1) 0 ∧ Bytes n₀ ((((w.setCell ⟨rb, 1, none⟩ v).setCell ⟨rb, 0, none⟩ (.slice A1 lr cap1)).alloc zeroBox).alloc o) (.slice A1 lr cap1) r ∧
              ((((w.setCell ⟨rb, 1, none⟩ v).setCell ⟨rb, 0, none⟩ (.slice A1 lr cap1)).alloc zeroBox).alloc o).heap[w.heap.size]? = some zeroBox ∧ ((((w.setCell ⟨rb, 1, none⟩ v).setCell ⟨rb, 0, none⟩ (.slice A1 lr cap1)).alloc zeroBox).alloc o).heap[w.heap.size + 1]? = some o ∧
              w.grownBy ((((w.setCell ⟨rb, 1, none⟩ v).setCell ⟨rb, 0, none⟩ (.slice A1 lr cap1)).alloc zeroBox).alloc o) (some rb) ∧ ((((w.setCell ⟨rb, 1, none⟩ v).setCell ⟨rb, 0, none⟩ (.slice A1 lr cap1)).alloc zeroBox).alloc o).heap.size = w.heap.size + 2 := fun v o hv => by
            have hsz : ((w.setCell ⟨rb, 1, none⟩ v).setCell ⟨rb, 0, none⟩ (.slice A1 lr cap1)).heap.size = w.heap.size := by simp [World.setCell]
            refine ⟨Rd.below ((HR.out.set1 (c + 1) hv).set0 (.slice A1 lr cap1)) (((Below.refl _ _).alloc (Nat.le_refl _) _).alloc (by simp) _), ?_, ?_, ?_, ?_, ?_⟩
            · exact Bytes.below ((((((Below.refl n₀ w).setCell (p := ⟨rb, 1, none⟩) hn v).setCell (p := ⟨rb, 0, none⟩) hn (.slice A1 lr cap1))).alloc (by rw [hsz]; omega) _).alloc (by simp [hsz]; omega) _) hB1
            · have h := heap_alloc_new ((w.setCell ⟨rb, 1, none⟩ v).setCell ⟨rb, 0, none⟩ (.slice A1 lr cap1)) zeroBox
              rw [hsz] at h
              rw [Below.heap_alloc _ _ _ (by simp [hsz])]; exact h
            · have h := heap_alloc_new (((w.setCell ⟨rb, 1, none⟩ v).setCell ⟨rb, 0, none⟩ (.slice A1 lr cap1)).alloc zeroBox) o
              rw [World.size_alloc, hsz] at h
              exact h
            · exact grown_alloc (grown_alloc (grown_set (i := 0) (grown_set (i := 1) (grown_refl _ _) _) _) _) _
            · rw [World.size_alloc, World.size_alloc, hsz]
          have HW5 := Lib.hid hW5
          have HLR := Lib.hid hlr
          clear hW5 hrun hrun1 hB1 hlr
          have hnn1 : ¬ w.heap.size = rb := by omega
          go_enter Try.func45, Try.ntmps45
          go_wp2_with (refine wpList_slice_ran (o := ⟨some 59, _, _, _, _, _⟩) rfl _ _ _ _ _ rfl rfl rfl rfl rfl (HRUN.out _) ?_)
          obtain ⟨g1, g2, g3, g4, g5, g6⟩ := HW5.out _ (.cells #[.int .i64 (x0 : Nat), .int .i64 0, .string ⟨#[]⟩, .slice none 0 0] 71) rfl
          have cN := refnumber_calls rb n₀ (c + 1) (.slice A1 lr cap1) r (by omega) _ g1 g2 hn
          obtain ⟨RN, hRN⟩ : ∃ RN, rdNum 0 0 r = RN := ⟨_, rfl⟩
          rw [hRN] at cN
          have HRN := Lib.hid hRN
          have key : ∀ (W2 : World), ((((w.setCell ⟨rb, 1, none⟩ (.int .i64 ((c : Int) + 1))).setCell ⟨rb, 0, none⟩ (.slice A1 lr cap1)).alloc zeroBox).alloc (.cells #[.int .i64 (x0 : Nat), .int .i64 0, .string ⟨#[]⟩, .slice none 0 0] 71)).grownBy W2 (some rb) →
              W2.heap[w.heap.size]? = some zeroBox ∧ W2.heap[w.heap.size + 1]? = some (.cells #[.int .i64 (x0 : Nat), .int .i64 0, .string ⟨#[]⟩, .slice none 0 0] 71) ∧ w.grownBy W2 (some rb) ∧ w.heap.size + 2 ≤ W2.heap.size := fun W2 hG =>
            ⟨(hG.block _ (by rw [g6]; omega) (by simp; omega)).trans g3, (hG.block _ (by rw [g6]; omega) (by simp; omega)).trans g4, g5.trans hG, by have := hG.size; omega⟩
          have KEY := Lib.hid key
          clear key hRN g1 g2 g3 g4 g5 g6 hcX hc0 r0 r1 r2 z0 z1 z2
          refine cN.mono ?_
          clear cN
          rintro e W2 hN
          cases RN with
          | error k' =>
            obtain ⟨rfl, hG, hR2⟩ := hN
            obtain ⟨k1, k2, k3, k4⟩ := KEY.out W2 hG
            obtain ⟨q0, q1, q2, q3, p0, p1, p2, p3⟩ := box4 k1
            obtain ⟨_, _, r2, _, _, _⟩ := hR2.cells
            have hkne : ¬ (k' : Int) = 0 := by have := rdNum_err _ _ _ _ HRN.out; omega
            have hspec : rdI (b + 1) c (x0 :: r) = .error k' := by rw [rdI, if_neg hbig]; simp only [rdHead, if_neg hk2, HRN.out]
            have HSPEC := Lib.hid hspec
            have HR2 := Lib.hid hR2
            have K3 := Lib.hid k3
            clear hspec hG hR2 KEY k2 k1 ih k3
            go_wp2
            refine bodyPost_ret (v := zeroItem) (by simp [results, Try.results45, go_sem, q0, q1, q2, q3]) rfl ?_
            rw [HSPEC.out]
            exact ⟨_, c + 1, rfl, grown_put4 K3.out (Nat.le_refl _) _ _ _ _, rd_put4 HR2.out (by omega) _ _ _ _⟩
          | ok q =>
            obtain ⟨n, r'⟩ := q
            obtain ⟨rfl, hG, B2, hR2, hI2⟩ := hN
            obtain ⟨k1, k2, k3, k4⟩ := KEY.out W2 hG
            obtain ⟨q0, q1, q2, q3, p0, p1, p2, p3⟩ := box4 k1
            obtain ⟨i0, i1, i2, i3, j0, j1, j2, j3⟩ := box4 k2
            obtain ⟨r0, r1, r2, z0, z1, z2⟩ := hR2.cells
            have hn64 : n < 18446744073709551616 := rdNum_lt r 0 0 n r' (by omega) (by decide) HRN.out
            have hrl : r'.length ≤ 65536 := by have := (rdNum_length r 0 0 n r' HRN.out).1; have := HLR.out; omega
            have hnh : (n : Int) < 18446744073709551616 := by omega
            have hhne : ¬ w.heap.size + 1 = w.heap.size := by omega
            have hhne2 : ¬ w.heap.size = w.heap.size + 1 := by omega
            have hrne2 : ¬ w.heap.size + 1 = rb := by omega
            have HR2 := Lib.hid hR2
            have HI2 := Lib.hid hI2
            have K3 := Lib.hid k3
            have K2 := Lib.hid k2
            have HN64 := Lib.hid hn64
            clear hG hR2 hI2 KEY k2 k1 k3 hn64
            by_cases hk0 : x0 = 0
            · subst hk0
              have hspec : rdI (b + 1) c (0 :: r) = .ok (.mk 0 (unzig n) noT [], c + 1, r') := by rw [rdI, if_neg hbig]; simp [rdHead, HRN.out]
              have HSPEC := Lib.hid hspec
              clear hspec ih
              have HRB := Lib.hid hrb
              by_cases hodd : n % 2 = 1
              · have hoI : (n : Int) % 2 = 1 := by omega
                have hval : unzig n = -((n : Int) / 2) - 1 := by unfold unzig; rw [if_pos hodd]; simp
                have HVAL := Lib.hid hval
                clear hodd hval
                go_wp2
                refine bodyPost_ret (v := aggOf (.mk 0 (-((n : Int) / 2) - 1) noT []) (.slice none 0 0)) (by simp [aggOf, noT, Item.kind, Item.n, Item.s, results, Try.results45, go_sem, q0, q1, q2, q3]) rfl ?_
                rw [HSPEC.out, HVAL.out]
                exact ⟨_, B2, rfl, grown_put4 (grown_put (grown_put K3.out (Nat.le_succ _) _) (Nat.le_succ _) _) (Nat.le_refl _) _ _ _ _, rd_put4 (rd_put (rd_put HR2.out (by omega) _) (by omega) _) (by omega) _ _ _ _, by_put4 (by_put (by_put HI2.out (by omega) _) (by omega) _) (by omega) _ _ _ _, .nil none 0 _ (fun _ => rfl) rfl⟩
              · have hoI : (n : Int) % 2 = 0 := by omega
                have hval : unzig n = (n : Int) / 2 := by unfold unzig; rw [if_neg hodd]; simp
                have HVAL := Lib.hid hval
                clear hodd hval
                go_wp2
                refine bodyPost_ret (v := aggOf (.mk 0 ((n : Int) / 2) noT []) (.slice none 0 0)) (by simp [aggOf, noT, Item.kind, Item.n, Item.s, results, Try.results45, go_sem, q0, q1, q2, q3]) rfl ?_
                rw [HSPEC.out, HVAL.out]
                exact ⟨_, B2, rfl, grown_put4 (grown_put K3.out (Nat.le_succ _) _) (Nat.le_refl _) _ _ _ _, rd_put4 (rd_put HR2.out (by omega) _) (by omega) _ _ _ _, by_put4 (by_put HI2.out (by omega) _) (by omega) _ _ _ _, .nil none 0 _ (fun _ => rfl) rfl⟩
            · rcases (show x0 = 1 ∨ x0 = 2 by omega) with rfl | rfl
              · clear hk0
                by_cases hbn : 9223372036854775807 < n
                · have hbnI : decide ((9223372036854775807 : Int) < (n : Int)) = true := by simp only [decide_eq_true_eq]; omega
                  have hspec : rdI (b + 1) c (1 :: r) = .error 3 := by rw [rdI, if_neg hbig]; simp [rdHead, HRN.out, hbn]
                  have HSPEC := Lib.hid hspec
                  clear hspec ih hbn
                  go_wp2
                  refine bodyPost_ret (v := zeroItem) (by simp [results, Try.results45, go_sem, q0, q1, q2, q3]) rfl ?_
                  rw [HSPEC.out]
                  exact ⟨_, c + 1, rfl, grown_put4 (grown_set (i := 2) K3.out _) (Nat.le_refl _) _ _ _ _, rd_put4 (HR2.out.set2 3 rfl) (by omega) _ _ _ _⟩
                · have hbnI : decide ((9223372036854775807 : Int) < (n : Int)) = false := by simp only [decide_eq_false_iff_not]; omega
                  obtain ⟨A2, cap2, rfl⟩ := HI2.out.form
                  obtain ⟨l2, hl2⟩ : ∃ l2, r'.length = l2 := ⟨_, rfl⟩
                  have hI2 := HI2.out
                  rw [hl2] at hI2 r0
                  clear HI2
                  have HI2 := Lib.hid hI2
                  have hR2 := HR2.out
                  rw [hl2] at hR2
                  clear HR2
                  have HR2 := Lib.hid hR2
                  have HL2 := Lib.hid hl2
                  have hl2b : (l2 : Int) ≤ 65536 := by omega
                  have HBN := Lib.hid hbn
                  clear hI2 hR2 hl2 hrl hbn
                  by_cases hend : l2 < n
                  · have heI : (l2 : Int) < (n : Int) := by omega
                    have hspec : rdI (b + 1) c (1 :: r) = .error 5 := by rw [rdI, if_neg hbig]; simp [rdHead, HRN.out, HBN.out, HL2.out, hend]
                    have HSPEC := Lib.hid hspec
                    clear hspec ih hend
                    go_wp2
                    refine bodyPost_ret (v := zeroItem) (by simp [results, Try.results45, go_sem, q0, q1, q2, q3]) rfl ?_
                    rw [HSPEC.out]
                    exact ⟨_, c + 1, rfl, grown_put4 (grown_set (i := 2) K3.out _) (Nat.le_refl _) _ _ _ _, rd_put4 (HR2.out.set2 5 rfl) (by omega) _ _ _ _⟩
                  · exact absurd ⟨rfl, n, r', HRN.out, by rw [HL2.out]; omega, by have := HBN.out; omega⟩ HT.out
              · clear hk0
                by_cases hbn : 9223372036854775807 < n
                · have hbnI : decide ((9223372036854775807 : Int) < (n : Int)) = true := by simp only [decide_eq_true_eq]; omega
                  have hspec : rdI (b + 1) c (2 :: r) = .error 3 := by rw [rdI, if_neg hbig]; simp [rdHead, HRN.out, hbn]
                  have HSPEC := Lib.hid hspec
                  clear hspec ih hbn
                  go_wp2
                  refine bodyPost_ret (v := zeroItem) (by simp [results, Try.results45, go_sem, q0, q1, q2, q3]) rfl ?_
                  rw [HSPEC.out]
                  exact ⟨_, c + 1, rfl, grown_put4 (grown_set (i := 2) K3.out _) (Nat.le_refl _) _ _ _ _, rd_put4 (HR2.out.set2 3 rfl) (by omega) _ _ _ _⟩
                · exact absurd ⟨rfl, n, r', HRN.out, by omega⟩ HG2.out

end Go.Proofs.Ytffehnojcajhiaa.Wire
