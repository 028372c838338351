/-
  Put together out of texts of one chain: what they hold stands ahead of each.
-/
import Derived.Test.YtnjjjalenhbicaaGDiskStands12
import Derived.Test.YtnjjjalenhbicaaGDiskStands09
/-
  Contract of the disk's Write: a write of a file that isn't there; the whole.
-/
namespace Go.Proofs.Ytnjjjalenhbicaa.Disk
open Go Go.RowKit Go.Lib Go.Sort Go.Proofs.Ytnjjjalenhbicaa.Law

set_option maxRecDepth 100000 in
set_option maxHeartbeats 4000000 in
theorem write_new (w : World) (O : Owner) (db : Nat) (D : DS) (h : DiskAt w O db D) (hw : WF D) (hmade : D.made ≤ 4294967296) (s : ByteArray) (k : Nat) (dv : Value) (d : ByteArray) (hdl : d.size ≤ 140737488351232) (hI : Bytes w.heap.size w dv (bytesS d)) (h0 : D.writeN s (k : Nat) d.size = 0) (hin : s ∉ D.names) :
    Calls Try.prog 21 #[.pointer (some ⟨db, 0, none⟩), .string s, .int .i64 (k : Nat), dv] w fun e W => e = .returned (.int .i64 0) ∧ ∃ O', DiskAt W O' db (D.wrote s k d) ∧ Past w O W O' := by
  obtain ⟨hr, hk, hfit⟩ := writeN_zero h0
  rw [Int.toNat_natCast] at hk hfit
  obtain ⟨hfail, hright, _⟩ := refN_zero hr
  have hs := short_right hright
  obtain ⟨hnow, hsafe, hmine⟩ := hw.gone hin
  have hns : szO (D.now s) = 0 := by rw [hnow]; rfl
  rw [hns] at hk hfit
  obtain rfl : k = 0 := by omega
  obtain ⟨mb, F, hc, hf⟩ := id h
  obtain ⟨n, hn, hm⟩ := hc.map
  have hFs : F s = none := by
    cases hq : F s with
    | none => rfl
    | some fb => exact absurd ((hc.dom s hs).1 (by rw [hq]; rfl)) hin
  have hdb := hc.disk.lt
  have hmbl : mb < w.heap.size := hc.lt mb (by rw [hc.omb]; simp)
  have hs63 : s.size ≤ 281474976710656 := by
    have h1 := hright
    unfold rightB at h1
    simp only [Bool.and_eq_true, decide_eq_true_eq] at h1
    have := h1.1.2
    omega
  have CR := Lib.hid (refusal_calls db mb _ _ _ _ s (by omega) ((0 : Nat) : Int) w hc.disk)
  rw [hr] at CR
  have hus := hw.usedLe
  have hrm := hw.room
  have hu2 : D.used ≤ 4611686018427387904 := Nat.le_trans hus (Nat.le_trans (Nat.mul_le_mul_right _ hmade) (by decide))
  have CK : Hid (∀ W, Below w.heap.size w W → ∃ (na sa ca : Option Addr) (nc sl sc cl cc : Nat) (nt st sh : Bool), Calls Try.prog 40 #[.pointer (some ⟨db, 0, none⟩), .string s] W (KnownOut W (.agg #[.bool nt, .slice na 0 nc, .bool st, .slice sa sl sc, .bool sh, .slice ca cl cc]))) := Lib.hid fun W hB => by
    obtain ⟨v, ns, sl, cl, nt, st, ⟨_, h2, _, _⟩, _, _, hc⟩ := known_at (h.below hB) hw s hs
    rw [hns] at h2
    subst h2
    exact ⟨v.na, v.sa, v.ca, v.nc, sl, v.sc, cl, v.cc, nt, st, v.sh, hc⟩
  have CS : Hid (∀ W, Calls Try.prog 46 #[.string s] W fun e W' => e = .returned (.string s) ∧ Below W.heap.size W W') := Lib.hid fun W => cloneS_calls s W (by omega)
  obtain ⟨dA, dcap, rfl⟩ := hI.form
  have hbl := bytesS_length d
  rw [hbl] at hI ⊢
  have hconv : ∀ W, Bytes w.heap.size W (.slice dA d.size dcap) (bytesS d) → (convert 34 9 (.slice dA d.size dcap)).run Try.prog W = .ok (.string d) W := fun W hI => by
    have := run_string_bytes (P := Try.prog) W (src := 34) (dst := 9) Try.underlying34 Try.underlying5 Try.underlying9 hI
    rw [this]
    have e : str (bytesS d) = d := by
      unfold str bytesS
      rw [List.map_map]
      have : (UInt8.ofNat ∘ UInt8.toNat) = id := by funext x; simp
      rw [this, List.map_id]
    rw [e]
  have HX : Hid (∀ W, Below w.heap.size w W → (W.cell? ⟨db, 0, none⟩ = some (.map (some mb)) ∧ W.cell? ⟨db, 1, none⟩ = some (.int .i64 (D.room : Int)) ∧ W.cell? ⟨db, 2, none⟩ = some (.int .i64 (D.used : Int))) ∧
      (Instr.lookup 62 (.map (some mb)) (.string s) false).run Try.prog W = .ok (.pointer none) W ∧
      (convert 34 9 (.slice dA d.size dcap)).run Try.prog W = .ok (.string d) W ∧ w.heap.size ≤ W.heap.size) := Lib.hid fun W hB => by
    have hd := hc.disk.below hB
    refine ⟨⟨hd.cells.1.1, hd.cells.1.2.1, hd.cells.1.2.2.1⟩, ?_, hconv W (hI.below hB), hB.size⟩
    have := (hm.at (W' := W) (hB.block _ hmbl)).look Try.underlying9 Try.underlying62 (zero_ptr _) hs
    rwa [hFs] at this
  have HM : Hid (∀ W fb, Below w.heap.size w W → ∃ w', (Instr.mapUpdate 62 (.map (some mb)) (.string s) (.pointer (some ⟨fb, 0, none⟩))).run Try.prog W = .ok () w' ∧ MapP Try.prog 9 w' mb (n + 1) (fun x => if x = s then some fb else F x) ∧ W.grownBy w' (some mb)) := Lib.hid fun W fb hB =>
    (hm.at (W' := W) (hB.block _ hmbl)).store Try.underlying9 Try.underlying62 (by simp only [maxLen]; omega) hs fb
  have HX8 : Hid (∀ W6 wq W8, Below w.heap.size w W6 → Below W6.heap.size W6 wq → wq.grownBy W8 (some mb) → (convert 34 9 (.slice dA d.size dcap)).run Try.prog W8 = .ok (.string d) W8) := Lib.hid fun W6 wq W8 hB6 hBq hg => by
    have hBw := hB6.trans (hBq.mono hB6.size)
    refine hconv W8 ?_
    obtain ⟨A', cap', e, e1, e2, hb, hcells⟩ := hI
    refine ⟨A', cap', e, e1, e2, hb, fun hl => ?_⟩
    obtain ⟨b, off, h1, h2, h3⟩ := hcells hl
    refine ⟨b, off, h1, h2, fun j hj => ?_⟩
    have hne : b ≠ mb := fun e => by
      subst e
      obtain ⟨D0, ⟨es, clock, h4, _⟩, _⟩ := hm
      have h5 := h3 j hj
      unfold World.cell? at h5
      simp only [h4] at h5
      cases h5
    have hbq : b < wq.heap.size := Nat.lt_of_lt_of_le h2 hBw.size
    rw [← h3 j hj]
    unfold World.cell?
    rw [hg.block b hbq (fun e => hne (by simpa using e)), hBw.block b h2]
  have HC : Hid (∀ W5 W6 wq W8, Below w.heap.size w W5 → Below w.heap.size w W6 → Below W6.heap.size W6 wq → W6.heap.size = W5.heap.size + 1 → FB W6 W5.heap.size false (.slice none 0 0) false (.slice none 0 0) false (.slice none 0 0) → wq.grownBy W8 (some mb) → MapP Try.prog 9 W8 mb (n + 1) (fun x => if x = s then some W5.heap.size else F x) →
      Calls Try.prog 47 #[.pointer (some ⟨W5.heap.size, 0, none⟩), .agg #[.int .i64 0, .int .i64 0, .int .i64 0, .string d]] (W8.alloc (.cells #[.int .i64 0, .int .i64 0, .int .i64 0, .string d] 86)) fun e W3 => e = .returned (.tuple #[]) ∧
      (W3.cell? ⟨W8.heap.size, 0, none⟩ = some (.int .i64 0) ∧ W3.cell? ⟨W8.heap.size, 1, none⟩ = some (.int .i64 0) ∧ W3.cell? ⟨W8.heap.size, 2, none⟩ = some (.int .i64 0) ∧ W3.cell? ⟨W8.heap.size, 3, none⟩ = some (.string d)) ∧
      Hid (Calls Try.prog 48 #[.pointer (some ⟨db, 0, none⟩), .pointer (some ⟨W5.heap.size, 0, none⟩), .agg #[.int .i64 0, .int .i64 0, .int .i64 0, .string d]] W3 fun e W4 => e = .returned (.tuple #[]) ∧
        (W4.cell? ⟨db, 2, none⟩ = some (.int .i64 (D.used : Int)) ∧ W4.frozen? ⟨db, 2, none⟩ = false) ∧
        Hid (∃ O', DiskAt (W4.setCell ⟨db, 2, none⟩ (.int .i64 ((D.used + d.size : Nat) : Int))) O' db (D.wrote s 0 d) ∧ Past w O (W4.setCell ⟨db, 2, none⟩ (.int .i64 ((D.used + d.size : Nat) : Int))) O'))) := Lib.hid fun W5 W6 wq W8 hB5 hB6 hBq hsz6 hF6 hg hm8 => by
    have hBw := hB6.trans (hBq.mono hB6.size)
    have hs8 : wq.heap.size ≤ W8.heap.size := hg.size
    have hsq := hBq.size
    have hs5 := hB5.size
    have hblk : ∀ k, k < w.heap.size → k ≠ mb → (W8.alloc (.cells #[.int .i64 0, .int .i64 0, .int .i64 0, .string d] 86)).heap[k]? = w.heap[k]? := fun k hk hne => by
      rw [Below.heap_alloc _ _ _ (by omega), hg.block k (by omega) (fun e => hne (by simpa using e)), hBw.block k hk]
    have hfb8 : FB (W8.alloc (.cells #[.int .i64 0, .int .i64 0, .int .i64 0, .string d] 86)) W5.heap.size false (.slice none 0 0) false (.slice none 0 0) false (.slice none 0 0) := by
      refine Eq.trans ?_ hF6
      have hne5 : W5.heap.size ≠ mb := by omega
      rw [Below.heap_alloc _ _ _ (by omega), hg.block _ (by omega) (fun e => hne5 (by simpa using e)), hBq.block _ (by omega)]
    have hv0 : FileV (W8.alloc (.cells #[.int .i64 0, .int .i64 0, .int .i64 0, .string d] 86)) (own O w.heap.size (W8.alloc (.cells #[.int .i64 0, .int .i64 0, .int .i64 0, .string d] 86)).heap.size s) (db + 1) s W5.heap.size (D.now s) (D.safe s) (mine s D.chs) ⟨false, none, 0, none, 0, none, 0⟩ := by
      rw [hnow, hsafe, hmine]
      refine ⟨hfb8, Buf.nil _ _ _, Buf.nil _ _ _, (fun g hg => by cases hg), OwnC.nil _ _, own_new (by omega) (by rw [World.size_alloc]; omega), fun g hg => ?_⟩
      rcases hg with hg | hg | hg <;> cases hg
    have := write_chain (kN := 0) (b := W8.heap.size) (d := d) (v := ⟨false, none, 0, none, 0, none, 0⟩) (F' := fun x => if x = s then some W5.heap.size else F x) hmade hc (fun x hx _ => hf x hx) hs hblk (by rw [World.size_alloc]; omega) ⟨hg.os.trans hBw.os, hg.tape.trans hBw.tape, hg.output.trans hBw.output⟩
      ⟨n + 1, by omega, hm8.at (Below.heap_alloc _ _ _ hm8.lt)⟩ (if_pos rfl) (fun x hx => if_neg hx) hv0 (Nat.zero_le _) (by rw [hns]; omega) (hw.mineLe s) (heap_alloc_new W8 _) (by omega)
    have e : 0 + d.size - szO (D.now s) = d.size := by rw [hns]; omega
    rw [e] at this
    exact this
  obtain ⟨dl, hdl2⟩ : ∃ dl, d.size = dl := ⟨_, rfl⟩
  rw [hdl2] at HX HX8 HC hfit hdl ⊢
  obtain ⟨u, hu1⟩ : ∃ u, D.used = u := ⟨_, rfl⟩
  obtain ⟨r, hr1⟩ : ∃ r, D.room = r := ⟨_, rfl⟩
  rw [hu1] at HX HC hfit hu2
  rw [hr1] at HX hfit hrm
  clear hconv hI hbl hmbl hdb hm hn hf hc h hw hs hright hfail hr h0 hin hus hmade hdl2 hu1 hr1 hns hs63 hmine hsafe hnow hFs hk
  by_cases hpos : 0 < dl
  · have hroom : u + dl ≤ r := by have := hfit (by omega); omega
    have g0 : decide (0 < dl) = true := by simp; omega
    have g1 : IntKind.i64.wrap ((u : Int) + (dl : Int)) = ((u + dl : Nat) : Int) := by rw [IntKind.wrap_i64]; omega
    have g2 : decide (r < u + dl) = false := by simp; omega
    clear hfit
    go_enter Try.func21, Try.ntmps21
    go_wp2_with fail
    refine CR.out.mono ?_
    rintro e W ⟨rfl, hB⟩
    go_wp2_with fail
    obtain ⟨na, sa, ca, nc, sl, sc, cl, cc, nt, st, sh, cK⟩ := CK.out W hB
    have CKK := Lib.hid cK
    clear cK
    refine CKK.out.mono ?_
    rintro e W2 ⟨rfl, hB2⟩
    have q0 := field_now nt st sh na sa ca 0 nc sl sc cl cc
    have q1 := field_bytes nt na 0 nc
    have hBB := hB.trans (hB2.mono hB.size)
    have HBB := Lib.hid hBB
    obtain ⟨⟨k0, k1, k2⟩, _, _, _⟩ := HX.out W2 hBB
    clear hB hB2 hBB
    go_wp2_with fail
    go_quiet (fail)
    have HB5 := Lib.hid (below_drewN (m := nq) HBB.out)
    clear HBB
    generalize W2.drewN nq = W5 at HB5 ⊢
    obtain ⟨⟨p0, _, _⟩, _, _, hw5⟩ := HX.out W5 HB5.out
    go_wp2_with (first | (refine wpList_lookup_ran (o := ⟨some 57, _, _, _, _, _⟩) rfl _ _ _ _ rfl rfl rfl (HX.out _ HB5.out).2.1 ?_))
    obtain ⟨W6, hW6⟩ : ∃ W6, W5.alloc (.cells #[.bool false, .slice none 0 0, .bool false, .slice none 0 0, .bool false, .slice none 0 0] 78) = W6 := ⟨_, rfl⟩
    rw [hW6]
    have hsz6 : W6.heap.size = W5.heap.size + 1 := by rw [← hW6]; simp
    have hB6 : Below w.heap.size w W6 := by rw [← hW6]; exact HB5.out.alloc HB5.out.size _
    have hF6 : FB W6 W5.heap.size false (.slice none 0 0) false (.slice none 0 0) false (.slice none 0 0) := by rw [← hW6]; exact heap_alloc_new W5 _
    obtain ⟨⟨p06, _, _⟩, _, _, _⟩ := HX.out W6 hB6
    have p6 := fun d os => cell_regrown p06 d os
    have CCL : Hid (∀ d os, Calls Try.prog 46 #[.string s] (grow (redrawn W6 d) os) fun e W => e = .returned (.string s) ∧ ∃ p : Regrown, W = grow (redrawn W6 p.d) p.os) := Lib.hid fun d os => Calls.regrown_of (CS.out _)
    have H6 := Lib.hid (And.intro hB6 (And.intro hF6 hsz6))
    clear hB6 hF6 p0 p06 hW6 hsz6
    refine wp_region_quiet_tail (C := fun w' => ∃ p : Regrown, w' = grow (redrawn W6 p.d) p.os) 7 (by kernel_rfl) (by kernel_rfl) ⟨⟨W6.drawn + 1, #[]⟩, by rw [grow_empty]; rfl⟩ ?_
    simp only [List.take_succ_cons, List.take_zero, List.drop_succ_cons, List.drop_zero]
    repeat (go_big_quiet_step ((first | exact CCL.out _ _)))
    refine wpQuiet_nil ?_
    intro wq hq
    obtain ⟨⟨dq, osq⟩, rfl⟩ := hq
    have hBq : Below W6.heap.size W6 (grow (redrawn W6 dq) osq) := below_regrown W6 dq osq
    obtain ⟨hB6, hF6, hsz6⟩ := H6.out
    generalize grow (redrawn W6 dq) osq = wq at hBq ⊢
    obtain ⟨W8, hst, hm8, hg8⟩ := HM.out wq W5.heap.size (hB6.trans (hBq.mono hB6.size))
    have hfin := HC.out W5 W6 wq W8 HB5.out hB6 hBq hsz6 hF6 hg8 hm8
    have hX8 := HX8.out W6 wq W8 hB6 hBq hg8
    have HST := Lib.hid hst
    have HFIN := Lib.hid hfin
    have HX88 := Lib.hid hX8
    clear hst hm8 hg8 hfin hBq hB6 hF6 hX8 H6 p6 CCL hsz6
    refine wpList_mapUpdate_ran rfl _ _ _ _ rfl rfl rfl rfl HST.out ?_
    clear HST
    go_wp2_with (first | (refine wpList_exec_ran (o := ⟨some 71, _, _, _, _, _⟩) rfl (run_conv HX88.out) ?_))
    refine HFIN.out.mono ?_
    rintro e W9 ⟨rfl, ⟨r0, r1, r2, r3⟩, HN⟩
    go_wp2_with fail
    refine HN.out.mono ?_
    rintro e W10 ⟨rfl, ⟨s0, s1⟩, HF⟩
    go_wp2_with fail
    go_ret
    exact ⟨rfl, HF.out⟩
  · obtain rfl : dl = 0 := by omega
    clear hfit hpos
    go_enter Try.func21, Try.ntmps21
    go_wp2_with fail
    refine CR.out.mono ?_
    rintro e W ⟨rfl, hB⟩
    go_wp2_with fail
    obtain ⟨na, sa, ca, nc, sl, sc, cl, cc, nt, st, sh, cK⟩ := CK.out W hB
    have CKK := Lib.hid cK
    clear cK
    refine CKK.out.mono ?_
    rintro e W2 ⟨rfl, hB2⟩
    have q0 := field_now nt st sh na sa ca 0 nc sl sc cl cc
    have q1 := field_bytes nt na 0 nc
    have hBB := hB.trans (hB2.mono hB.size)
    have HBB := Lib.hid hBB
    obtain ⟨⟨k0, k1, k2⟩, _, _, _⟩ := HX.out W2 hBB
    clear hB hB2 hBB
    go_wp2_with fail
    go_quiet (fail)
    have HB5 := Lib.hid (below_drewN (m := nq) HBB.out)
    clear HBB
    generalize W2.drewN nq = W5 at HB5 ⊢
    obtain ⟨⟨p0, _, _⟩, _, _, hw5⟩ := HX.out W5 HB5.out
    go_wp2_with (first | (refine wpList_lookup_ran (o := ⟨some 57, _, _, _, _, _⟩) rfl _ _ _ _ rfl rfl rfl (HX.out _ HB5.out).2.1 ?_))
    obtain ⟨W6, hW6⟩ : ∃ W6, W5.alloc (.cells #[.bool false, .slice none 0 0, .bool false, .slice none 0 0, .bool false, .slice none 0 0] 78) = W6 := ⟨_, rfl⟩
    rw [hW6]
    have hsz6 : W6.heap.size = W5.heap.size + 1 := by rw [← hW6]; simp
    have hB6 : Below w.heap.size w W6 := by rw [← hW6]; exact HB5.out.alloc HB5.out.size _
    have hF6 : FB W6 W5.heap.size false (.slice none 0 0) false (.slice none 0 0) false (.slice none 0 0) := by rw [← hW6]; exact heap_alloc_new W5 _
    obtain ⟨⟨p06, _, _⟩, _, _, _⟩ := HX.out W6 hB6
    have p6 := fun d os => cell_regrown p06 d os
    have CCL : Hid (∀ d os, Calls Try.prog 46 #[.string s] (grow (redrawn W6 d) os) fun e W => e = .returned (.string s) ∧ ∃ p : Regrown, W = grow (redrawn W6 p.d) p.os) := Lib.hid fun d os => Calls.regrown_of (CS.out _)
    have H6 := Lib.hid (And.intro hB6 (And.intro hF6 hsz6))
    clear hB6 hF6 p0 p06 hW6 hsz6
    refine wp_region_quiet_tail (C := fun w' => ∃ p : Regrown, w' = grow (redrawn W6 p.d) p.os) 7 (by kernel_rfl) (by kernel_rfl) ⟨⟨W6.drawn + 1, #[]⟩, by rw [grow_empty]; rfl⟩ ?_
    simp only [List.take_succ_cons, List.take_zero, List.drop_succ_cons, List.drop_zero]
    repeat (go_big_quiet_step ((first | exact CCL.out _ _)))
    refine wpQuiet_nil ?_
    intro wq hq
    obtain ⟨⟨dq, osq⟩, rfl⟩ := hq
    have hBq : Below W6.heap.size W6 (grow (redrawn W6 dq) osq) := below_regrown W6 dq osq
    obtain ⟨hB6, hF6, hsz6⟩ := H6.out
    generalize grow (redrawn W6 dq) osq = wq at hBq ⊢
    obtain ⟨W8, hst, hm8, hg8⟩ := HM.out wq W5.heap.size (hB6.trans (hBq.mono hB6.size))
    have hfin := HC.out W5 W6 wq W8 HB5.out hB6 hBq hsz6 hF6 hg8 hm8
    have hX8 := HX8.out W6 wq W8 hB6 hBq hg8
    have HST := Lib.hid hst
    have HFIN := Lib.hid hfin
    have HX88 := Lib.hid hX8
    clear hst hm8 hg8 hfin hBq hB6 hF6 hX8 H6 p6 CCL hsz6
    refine wpList_mapUpdate_ran rfl _ _ _ _ rfl rfl rfl rfl HST.out ?_
    clear HST
    go_wp2_with (first | (refine wpList_exec_ran (o := ⟨some 71, _, _, _, _, _⟩) rfl (run_conv HX88.out) ?_))
    refine HFIN.out.mono ?_
    rintro e W9 ⟨rfl, ⟨r0, r1, r2, r3⟩, HN⟩
    go_wp2_with fail
    refine HN.out.mono ?_
    rintro e W10 ⟨rfl, ⟨s0, s1⟩, HF⟩
    go_wp2_with fail
    go_ret
    exact ⟨rfl, HF.out⟩

/-- Write. -/
theorem write_calls (w : World) (O : Owner) (db : Nat) (D : DS) (h : DiskAt w O db D) (hw : WF D) (hmade : D.made ≤ 4294967296) (s : ByteArray) (hs63 : s.size ≤ 9223372036854775807) (k : Int) (hk63 : k ≤ 9223372036854775807) (dv : Value) (d : ByteArray) (hdl : d.size ≤ 140737488351232) (hI : Bytes w.heap.size w dv (bytesS d)) :
    Calls Try.prog 21 #[.pointer (some ⟨db, 0, none⟩), .string s, .int .i64 k, dv] w (WroteD w O db D s k d) := by
  by_cases h0 : D.writeN s k d.size = 0
  · obtain ⟨hr, _, _⟩ := writeN_zero h0
    obtain ⟨_, _, hk0⟩ := refN_zero hr
    obtain ⟨kN, rfl⟩ : ∃ kN : Nat, k = (kN : Nat) := ⟨k.toNat, by omega⟩
    have : D.write s (kN : Nat) d = D.wrote s kN d := by unfold DS.write; rw [if_pos h0]; rfl
    unfold WroteD
    rw [h0, this]
    by_cases hin : s ∈ D.names
    · exact write_old w O db D h hw hmade s kN dv d hdl hI h0 hin
    · exact write_new w O db D h hw hmade s kN dv d hdl hI h0 hin
  · have : D.write s k d = D := by unfold DS.write; rw [if_neg h0]
    unfold WroteD
    rw [this]
    obtain ⟨A, cap, rfl⟩ := hI.form
    rw [bytesS_length]
    refine (write_err w O db D h hw hmade s hs63 k hk63 A d.size cap hdl h0).mono ?_
    rintro e W ⟨rfl, hB⟩
    exact ⟨rfl, O, h.below hB, Past.of_below O hB⟩

end Go.Proofs.Ytnjjjalenhbicaa.Disk
