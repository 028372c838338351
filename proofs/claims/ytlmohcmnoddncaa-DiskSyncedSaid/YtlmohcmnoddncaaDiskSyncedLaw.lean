/-
  The walk of the law DiskSynced: whatever the rows of bytes, the bytes and the picks, it returns true and nothing that lay has turned.
-/
import Derived.Test.YtlmohcmnoddncaaDiskSyncedMath
import Derived.Deep.QuietTactic
import Derived.BigQuiet
import Derived.WalkSmall
namespace Go.Proofs.Ytlmohcmnoddncaa.Disk
open Go Go.RowKit Go.Lib Go.Proofs.Ytlmohcmnoddncaa.Law

/-- A file's name as the law makes it. -/
theorem nm_made (W : World) (i : Nat) (hi : i < 20) : (convert 34 9 (.slice (some ⟨W.heap.size, 0, none⟩) 2 2)).run Try.prog (W.alloc (.cells #[.int .u8 102, .int .u8 (97 + (i : Int))] 5)) = .ok (.string (nm i)) (W.alloc (.cells #[.int .u8 102, .int .u8 (97 + (i : Int))] 5)) := by
  have e : (97 + (i : Int)) = ((97 + i : Nat) : Int) := by omega
  rw [e]
  exact run_string_bytes (P := Try.prog) _ Try.underlying34 Try.underlying5 Try.underlying9 (bytes_made W [102, 97 + i] (by intro x hx; simp at hx; omega) (0, 0))

theorem u8_wrap (i : Nat) (hi : i < 20) : IntKind.u8.wrap (97 + (i : Int)) = 97 + (i : Int) := by
  unfold IntKind.wrap; simp [IntKind.signed, IntKind.bits]; omega
theorem nm_size (i : Nat) : (nm i).size = 2 := by unfold nm; rw [str_size]; rfl

theorem Ints.low {w W : World} {v : Value} {ps : List Int} (n : Nat) (h : Ints (fun b => b < w.heap.size) w v ps) (hB : Below w.heap.size w W) : Ints (fun b => b < W.heap.size ∧ (b < w.heap.size ∨ n ≤ b)) W v ps := by
  obtain ⟨A, cap, h1, h2, h3⟩ := h.at (W' := W) fun b hb => hB.block b hb
  refine ⟨A, cap, h1, h2, fun hp => ?_⟩
  obtain ⟨b, off, h4, h5, h6⟩ := h3 hp
  exact ⟨b, off, h4, ⟨Nat.lt_of_lt_of_le h5 hB.size, .inl h5⟩, h6⟩

set_option maxRecDepth 100000 in
set_option maxHeartbeats 4000000 in
theorem diskSynced_law (sv : Value) (bss : List (List Nat)) (hl : bss.length ≤ maxLen) (hls : ∀ j, j < bss.length → (bss.getD j []).length ≤ 140737488351232) (ev : Value) (ex : List Nat) (hex : ex.length ≤ 140737488351232) (pv : Value) (picks : List Int)
    (w : World) (hI : ByteRows w.heap.size w sv bss) (hE : Bytes w.heap.size w ev ex) (hP : Ints (fun b => b < w.heap.size) w pv picks) :
    Calls Try.prog 7 #[sv, ev, pv] w fun e W' => e = .returned (.bool true) ∧ Below w.heap.size w W' := by
  simp only [maxLen] at hl
  obtain ⟨A, cap, rfl⟩ := hI.form
  obtain ⟨EA, ec, rfl⟩ := hE.form
  obtain ⟨PA, pc, rfl, _⟩ := id hP
  obtain ⟨N, hN⟩ : ∃ N, bss.length = N := ⟨_, rfl⟩
  obtain ⟨el, hel⟩ : ∃ el, ex.length = el := ⟨_, rfl⟩
  obtain ⟨M, hMN, hM20, hbr⟩ : ∃ M : Nat, M ≤ N ∧ M ≤ 20 ∧ (¬ (M : Int) < (N : Int) ∨ ((M : Int) < (N : Int) ∧ ¬ (M : Int) < 20)) := ⟨min N 20, by omega, by omega, by omega⟩
  obtain ⟨pl, hpl⟩ : ∃ pl, picks.length = pl := ⟨_, rfl⟩
  have HI := Lib.hid hI
  have HE := Lib.hid hE
  have HP := Lib.hid hP
  have HN := Lib.hid hN
  have HEL := Lib.hid hel
  have HLS := Lib.hid hls
  rw [hN] at HI hl HLS ⊢
  rw [hel] at HE hex ⊢
  rw [hpl] at HP ⊢
  have hMM : ∀ k, k ≤ M → k < M ∨ k = M := fun k hk => by omega
  have HMM := Lib.hid hMM
  clear hI hE hP hN hel hls hMM hpl
  rcases hbr with hx | ⟨hx, hy⟩
  all_goals
    go_enter Try.func7, Try.ntmps7
    go_wp2_with fail
    refine (known_law _).mono ?_
    rintro e w1 ⟨rfl, hB1⟩
    have HB1 := Lib.hid hB1
    clear hB1
    go_wp2_with fail
    go_loopw [7, 8] (fun s i wr => ∃ k m : Nat, i = .int .i64 k ∧ k ≤ M ∧ s = .int .i64 m ∧ Hid (m = el + ((bss.take k).map List.length).sum) ∧ m ≤ (k + 1) * 281474976710656 ∧ wr = w1) (fun _ i _ => M - (intOf i).toNat)
    case atStart => exact ⟨0, el, rfl, Nat.zero_le _, rfl, Lib.hid (by simp), by omega, rfl⟩
    case round =>
      obtain ⟨k, m, rfl, hk, rfl, HS, hm, rfl⟩ := hrel
      rcases HMM.out k hk with hlt | rfl
      · obtain ⟨b, off, rfl, hb, hcs⟩ := HI.out.cells (by omega)
        obtain ⟨vk, hck, hIk⟩ := hcs k (by omega)
        have hck := (HB1.out.cell (p := ⟨b, off + k, none⟩) hb).trans hck
        have hlk := HLS.out k (by omega)
        have hnext := sum_next bss k (by rw [HN.out]; omega)
        obtain ⟨Ak, capk, rfl⟩ := hIk.form
        obtain ⟨lk, hlk'⟩ : ∃ lk, (bss.getD k []).length = lk := ⟨_, rfl⟩
        rw [hlk'] at hck hlk hnext
        have HS2 : Hid (m + lk = el + ((bss.take (k + 1)).map List.length).sum) := Lib.hid (by rw [hnext]; have := HS.out; omega)
        have hkN : (k : Int) < (N : Int) := by omega
        have hk20 : (k : Int) < 20 := by omega
        have hmI : (m : Int) + (lk : Int) ≤ 9223372036854775807 := by
          have : (k + 1) * 281474976710656 ≤ 20 * 281474976710656 := Nat.mul_le_mul_right _ (by omega)
          omega
        clear hcs hIk hnext hlk' HS
        go_wp2_with fail
        go_roundw
        case rel => exact ⟨k + 1, m + lk, by go_num, by omega, by go_num, HS2, by rw [Nat.add_mul (k + 1) 1]; omega, trivial⟩
        case measure => simp [intOf]; omega
      · have HS2 : Hid (m = el + ((bss.take k).map List.length).sum) := HS
        by_cases hbig : (134217728 : Int) < (m : Int)
        · clear HS
          go_wp2_with fail
          go_ret
          exact ⟨rfl, HB1.out⟩
        · have hsm : el + ((bss.take k).map List.length).sum ≤ 134217728 := by have := HS.out; omega
          have HSM := Lib.hid hsm
          clear HS HS2 hsm hm
          go_wp2_with fail
          refine (new_dk 268435456 (by decide) w _ HB1.out).mono ?_
          rintro e w2 ⟨db, rfl, hD⟩
          have HD := Lib.hid hD
          clear hD
          go_wp2_with fail
          go_loopw [11] (fun i wr => ∃ j : Nat, i = .int .i64 j ∧ j ≤ k ∧ Hid (∃ D, SpecD bss j D ∧ Dk w db D wr)) (fun i _ => k - (intOf i).toNat)
          case atStart => exact ⟨0, rfl, Nat.zero_le _, Lib.hid ⟨_, SpecD.start bss, HD.out⟩⟩
          case round =>
            obtain ⟨j, rfl, hj, HSD⟩ := hrel
            rcases HMM.out j hj with hlt | rfl
            · obtain ⟨D, hS, hK⟩ := HSD.out
              obtain ⟨b, off, rfl, hb, hcs⟩ := HI.out.cells (by omega)
              obtain ⟨vk, hck, hIk⟩ := hcs j (by omega)
              have hBw := hK.low
              obtain ⟨wa, hwa⟩ : ∃ wa, wr.alloc (.cells #[.int .u8 102, .int .u8 (97 + (j : Int))] 5) = wa := ⟨_, rfl⟩
              have hBa : Below wr.heap.size wr wa := by rw [← hwa]; exact (Below.refl _ _).alloc (Nat.le_refl _) _
              have hBwa := hBw.trans (hBa.mono hBw.size)
              have hcka := (hBwa.cell (p := ⟨b, off + j, none⟩) hb).trans hck
              have hIa := (hIk.below hBwa).more hBwa.size
              have hlk := HLS.out j (by omega)
              have hst := hS.step (i := j) (by omega) (by rw [HN.out]; omega) (Nat.le_trans (sum_take_le bss (j + 1) k (by omega)) (by have := HSM.out; omega)) hIk.lt
              obtain ⟨q1, q2, q3⟩ := hst
              have hlj : (bss.getD j []).length ≤ 134217728 := by
                have h1 := sum_next bss j (by rw [HN.out]; omega)
                have h2 := sum_take_le bss (j + 1) k (by omega)
                have h3 := HSM.out
                omega
              have CW := (hK.below hBa).write (by rw [hS.made]; omega) (nm j) (by rw [nm_size]; decide) 0 (by decide) vk (bss.getD j []) (by omega) hIa
              rw [q1] at CW
              have HQ := Lib.hid (And.intro q2 q3)
              obtain ⟨Ak, capk, rfl⟩ := hIk.form
              obtain ⟨lk, hlk'⟩ : ∃ lk, (bss.getD j []).length = lk := ⟨_, rfl⟩
              rw [hlk'] at hcka CW
              have CWW := Lib.hid CW
              have hnm := nm_made wr j (by omega)
              have hwrap := u8_wrap j (by omega)
              subst hwa
              have hjN : (j : Int) < (N : Int) := by omega
              have hj20 : (j : Int) < 20 := by omega
              clear hcs hIk hck hIa hBw hBa hBwa hS hK q1 q2 q3 CW hlj hlk hlk' HSD
              go_wp2_with fail
              refine CWW.out.mono ?_
              rintro e wb ⟨rfl, hKb⟩
              have CSS := Lib.hid (hKb.sync (nm j) (by rw [nm_size]; decide))
              rw [HQ.out.1] at CSS
              clear hKb CWW
              go_wp2_with fail
              refine CSS.out.mono ?_
              rintro e wc ⟨rfl, hKc⟩
              have HKC := Lib.hid hKc
              clear hKc CSS
              go_wp2_with fail
              go_roundw
              case rel => exact ⟨j + 1, by go_num, by omega, Lib.hid ⟨_, HQ.out.2, HKC.out⟩⟩
              case measure => simp [intOf]; omega
            · obtain ⟨D, hS, hK⟩ := HSD.out
              have hBw := hK.low
              have hBw' := hBw.size
              have CZ := hK.write (by rw [hS.made]; omega) nmZ (by decide) 0 (by decide) (.slice EA el ec) ex (by rw [HEL.out]; omega) ((HE.out.below hBw).more hBw')
              have hlast := hS.last (by omega) ex (by rw [HEL.out]; exact HSM.out) picks
              obtain ⟨D1, hD1⟩ : ∃ D1, D.write nmZ 0 (str ex) = D1 := ⟨_, rfl⟩
              rw [hD1] at CZ hlast
              obtain ⟨zn, hzn⟩ : ∃ zn, D.writeN nmZ 0 ex.length = zn := ⟨_, rfl⟩
              rw [hzn] at CZ
              have CZZ := Lib.hid CZ
              have HLAST := Lib.hid hlast
              clear hS hK hBw hBw' CZ hlast hD1 hzn HSD HD
              go_wp2_with fail
              refine CZZ.out.mono ?_
              rintro e wb ⟨rfl, hKb⟩
              have CC := Lib.hid (hKb.crash (Below.refl _ _) (by rw [HLAST.out.1]; omega) (.slice PA pl pc) picks (Ints.low _ HP.out hKb.low))
              clear hKb CZZ
              go_wp2_with fail
              refine CC.out.mono ?_
              rintro e wc ⟨rfl, hKc⟩
              obtain ⟨D2, hD2⟩ : ∃ D2, D1.crash picks = D2 := ⟨_, rfl⟩
              have hd2m : D2.made = j + 1 := by rw [← hD2]; exact HLAST.out.1
              have HD2M := Lib.hid hd2m
              clear hd2m
              rw [hD2] at hKc HLAST
              have HKC := Lib.hid hKc
              clear hKc CC hD2
              go_wp2_with fail
              go_loopw [13] (fun i wr => ∃ q : Nat, i = .int .i64 q ∧ q ≤ j ∧ Hid (Dk w db D2 wr)) (fun i _ => j - (intOf i).toNat)
              case atStart => exact ⟨0, rfl, Nat.zero_le _, HKC⟩
              case round =>
                obtain ⟨q, rfl, hq, HK⟩ := hrel
                rcases HMM.out q hq with hlt | rfl
                · obtain ⟨b, off, rfl, hb, hcs⟩ := HI.out.cells (by omega)
                  obtain ⟨vk, hck, hIk⟩ := hcs q (by omega)
                  have hBw := HK.out.low
                  have hBa : Below wr.heap.size wr (wr.alloc (.cells #[.int .u8 102, .int .u8 (97 + (q : Int))] 5)) := (Below.refl _ _).alloc (Nat.le_refl _) _
                  have hKa := HK.out.below hBa
                  have CR := hKa.read (nm q) (by show (nm q).size ≤ maxLen; rw [nm_size]; decide)
                  rw [HLAST.out.2.1 q (by omega)] at CR
                  have CRR := Lib.hid CR
                  have hnm := nm_made wr q (by omega)
                  have hwrap := u8_wrap q (by omega)
                  have HIK := Lib.hid (And.intro hb (And.intro hck hIk))
                  have hqN : (q : Int) < (N : Int) := by omega
                  have hq20 : (q : Int) < 20 := by omega
                  clear hcs hck hIk hBw hBa hKa CR HK
                  go_wp2_with fail
                  refine CRR.out.mono ?_
                  rintro e wd ⟨⟨v, rfl, hO, hB⟩, hKd⟩
                  have hO : OwnB wd _ 5 v (bss.getD q []) := hO
                  have hBd := hKd.low
                  obtain ⟨hb, hck, hIk⟩ := HIK.out
                  have hckd := (hBd.cell (p := ⟨b, off + q, none⟩) hb).trans hck
                  have hcv := fun x => run_string_bytes (P := Try.prog) (wd.drewN x) Try.underlying34 Try.underlying5 Try.underlying9 (show Bytes wd.heap.size (wd.drewN x) _ _ from hO.bytes)
                  have hcw := fun x => run_string_bytes (P := Try.prog) (wd.drewN x) Try.underlying34 Try.underlying5 Try.underlying9 (show Bytes w.heap.size (wd.drewN x) _ _ from hIk.below hBd)
                  obtain ⟨A1, c1, rfl⟩ := hO.bytes.form
                  obtain ⟨A2, c2, rfl⟩ := hIk.form
                  obtain ⟨S, hS⟩ : ∃ S, str (bss.getD q []) = S := ⟨_, rfl⟩
                  obtain ⟨lq, hlq⟩ : ∃ lq, (bss.getD q []).length = lq := ⟨_, rfl⟩
                  rw [hS, hlq] at hcv hcw
                  rw [hlq] at hckd ⊢
                  have HKD := Lib.hid hKd
                  have hckq : ∀ x, (wd.drewN x).cell? ⟨b, off + q, none⟩ = some (.slice A2 lq c2) := fun _ => hckd
                  clear hO hB hKd hBd hb hck hIk hS hlq CRR HIK
                  go_wp2_with fail
                  go_quiet (fail)
                  have HKE := Lib.hid (HKD.out.below (below_drewN (m := nq) (Below.refl _ _)))
                  clear HKD
                  generalize wd.drewN nq = we at HKE ⊢
                  go_wp2_with fail
                  go_roundw
                  case rel => exact ⟨q + 1, by go_num, by omega, HKE⟩
                  case measure => simp [intOf]; omega
                · have CP := HK.out.pending (by show D2.made ≤ 4294967296; rw [HD2M.out]; omega)
                  rw [HLAST.out.2.2] at CP
                  have CPP := Lib.hid CP
                  clear CP HK
                  go_wp2_with fail
                  refine CPP.out.mono ?_
                  rintro e wf ⟨rfl, hKf⟩
                  have hL := hKf.low
                  clear hKf CPP
                  go_wp2_with fail
                  go_ret
                  exact ⟨rfl, hL⟩

end Go.Proofs.Ytlmohcmnoddncaa.Disk
