/-
  Put together out of texts of one chain: what they hold stands ahead of each.
-/
import Derived.Test.YtnhkpemajknfnaaGreatDoorGSeglogHeads04
import Derived.Test.YtnhkpemajknfnaaGreatDoorMapOps
/-
  Contract of the disk's Write: a write of a file that isn't there; the whole.
-/
namespace Go.Proofs.YtnhkpemajknfnaaGreatDoor.Disk
open Go Go.RowKit Go.Lib Go.Sort Go.Proofs.YtnhkpemajknfnaaGreatDoor.Law

set_option maxRecDepth 100000 in
set_option maxHeartbeats 4000000 in
theorem write_new (w : World) (O : Owner) (db : Nat) (D : DS) (h : DiskAt w O db D) (hw : WF D) (hmade : D.made ≤ 4294967296) (s : ByteArray) (k : Nat) (dv : Value) (d : ByteArray) (hdl : d.size ≤ 140737488351232) (hI : Bytes w.heap.size w dv (bytesS d)) (h0 : D.writeN s (k : Nat) d.size = 0) (hin : s ∉ D.names) :
    Calls Tryz.prog 9 #[.pointer (some ⟨db, 0, none⟩), .string s, .int .i64 (k : Nat), dv] w fun e W => e = .returned (.int .i64 0) ∧ ∃ O', DiskAt W O' db (D.wrote s k d) ∧ Past w O W O' := by
  obtain ⟨hr, hk, hfit⟩ := writeN_zero h0
  rw [Int.toNat_natCast] at hk hfit
  obtain ⟨hfail, hright, _⟩ := refN_zero hr
  have hs := short_right hright
  obtain ⟨hnow, hsafe, hmine⟩ := hw.gone hin
  have hns : szO (D.now s) = 0 := by rw [hnow]; rfl
  rw [hns] at hk hfit
  obtain rfl : k = 0 := by omega
  obtain ⟨mb, F, hc, hf⟩ := id h
  obtain ⟨n, hn, hm⟩ := hc.map
  have hFs : F s = none := by
    cases hq : F s with
    | none => rfl
    | some fb => exact absurd ((hc.dom s hs).1 (by rw [hq]; rfl)) hin
  have hdb := hc.disk.lt
  have hmbl : mb < w.heap.size := hc.lt mb (by rw [hc.omb]; simp)
  have hs63 : s.size ≤ 281474976710656 := by
    have h1 := hright
    unfold rightB at h1
    simp only [Bool.and_eq_true, decide_eq_true_eq] at h1
    have := h1.1.2
    omega
  have CR := Lib.hid (refusal_calls db mb _ _ _ _ s (by omega) ((0 : Nat) : Int) w hc.disk)
  rw [hr] at CR
  have hus := hw.usedLe
  have hrm := hw.room
  have hu2 : D.used ≤ 4611686018427387904 := Nat.le_trans hus (Nat.le_trans (Nat.mul_le_mul_right _ hmade) (by decide))
  have CK : Hid (∀ W, Below w.heap.size w W → ∃ (na sa ca : Option Addr) (nc sl sc cl cc : Nat) (nt st sh : Bool), Calls Tryz.prog 28 #[.pointer (some ⟨db, 0, none⟩), .string s] W (KnownOut W (.agg #[.bool nt, .slice na 0 nc, .bool st, .slice sa sl sc, .bool sh, .slice ca cl cc]))) := Lib.hid fun W hB => by
    obtain ⟨v, ns, sl, cl, nt, st, ⟨_, h2, _, _⟩, _, _, hc⟩ := known_at (h.below hB) hw s hs
    rw [hns] at h2
    subst h2
    exact ⟨v.na, v.sa, v.ca, v.nc, sl, v.sc, cl, v.cc, nt, st, v.sh, hc⟩
  have CS : Hid (∀ W, Calls Tryz.prog 29 #[.string s] W fun e W' => e = .returned (.string s) ∧ Below W.heap.size W W') := Lib.hid fun W => cloneS_calls s W (by omega)
  obtain ⟨dA, dcap, rfl⟩ := hI.form
  have hbl := bytesS_length d
  rw [hbl] at hI ⊢
  have hconv : ∀ W, Bytes w.heap.size W (.slice dA d.size dcap) (bytesS d) → (convert 29 9 (.slice dA d.size dcap)).run Tryz.prog W = .ok (.string d) W := fun W hI => by
    have := run_string_bytes (P := Tryz.prog) W (src := 29) (dst := 9) Tryz.underlying29 Tryz.underlying5 Tryz.underlying9 hI
    rw [this]
    have e : str (bytesS d) = d := by
      unfold str bytesS
      rw [List.map_map]
      have : (UInt8.ofNat ∘ UInt8.toNat) = id := by funext x; simp
      rw [this, List.map_id]
    rw [e]
  have HX : Hid (∀ W, Below w.heap.size w W → (W.cell? ⟨db, 0, none⟩ = some (.map (some mb)) ∧ W.cell? ⟨db, 1, none⟩ = some (.int .i64 (D.room : Int)) ∧ W.cell? ⟨db, 2, none⟩ = some (.int .i64 (D.used : Int))) ∧
      (Instr.lookup 60 (.map (some mb)) (.string s) false).run Tryz.prog W = .ok (.pointer none) W ∧
      (convert 29 9 (.slice dA d.size dcap)).run Tryz.prog W = .ok (.string d) W ∧ w.heap.size ≤ W.heap.size) := Lib.hid fun W hB => by
    have hd := hc.disk.below hB
    refine ⟨⟨hd.cells.1.1, hd.cells.1.2.1, hd.cells.1.2.2.1⟩, ?_, hconv W (hI.below hB), hB.size⟩
    have := (hm.at (W' := W) (hB.block _ hmbl)).look Tryz.underlying9 Tryz.underlying60 (zero_ptr _) hs
    rwa [hFs] at this
  have HM : Hid (∀ W fb, Below w.heap.size w W → ∃ w', (Instr.mapUpdate 60 (.map (some mb)) (.string s) (.pointer (some ⟨fb, 0, none⟩))).run Tryz.prog W = .ok () w' ∧ MapP Tryz.prog 9 w' mb (n + 1) (fun x => if x = s then some fb else F x) ∧ W.grownBy w' (some mb)) := Lib.hid fun W fb hB =>
    (hm.at (W' := W) (hB.block _ hmbl)).store Tryz.underlying9 Tryz.underlying60 (by simp only [maxLen]; omega) hs fb
  have HX8 : Hid (∀ W6 wq W8, Below w.heap.size w W6 → Below W6.heap.size W6 wq → wq.grownBy W8 (some mb) → (convert 29 9 (.slice dA d.size dcap)).run Tryz.prog W8 = .ok (.string d) W8) := Lib.hid fun W6 wq W8 hB6 hBq hg => by
    have hBw := hB6.trans (hBq.mono hB6.size)
    refine hconv W8 ?_
    obtain ⟨A', cap', e, e1, e2, hb, hcells⟩ := hI
    refine ⟨A', cap', e, e1, e2, hb, fun hl => ?_⟩
    obtain ⟨b, off, h1, h2, h3⟩ := hcells hl
    refine ⟨b, off, h1, h2, fun j hj => ?_⟩
    have hne : b ≠ mb := fun e => by
      subst e
      obtain ⟨D0, ⟨es, clock, h4, _⟩, _⟩ := hm
      have h5 := h3 j hj
      unfold World.cell? at h5
      simp only [h4] at h5
      cases h5
    have hbq : b < wq.heap.size := Nat.lt_of_lt_of_le h2 hBw.size
    rw [← h3 j hj]
    unfold World.cell?
    rw [hg.block b hbq (fun e => hne (by simpa using e)), hBw.block b h2]
  have HC : Hid (∀ W5 W6 wq W8, Below w.heap.size w W5 → Below w.heap.size w W6 → Below W6.heap.size W6 wq → W6.heap.size = W5.heap.size + 1 → FB W6 W5.heap.size false (.slice none 0 0) false (.slice none 0 0) false (.slice none 0 0) → wq.grownBy W8 (some mb) → MapP Tryz.prog 9 W8 mb (n + 1) (fun x => if x = s then some W5.heap.size else F x) →
      Calls Tryz.prog 30 #[.pointer (some ⟨W5.heap.size, 0, none⟩), .agg #[.int .i64 0, .int .i64 0, .int .i64 0, .string d]] (W8.alloc (.cells #[.int .i64 0, .int .i64 0, .int .i64 0, .string d] 73)) fun e W3 => e = .returned (.tuple #[]) ∧
      (W3.cell? ⟨W8.heap.size, 0, none⟩ = some (.int .i64 0) ∧ W3.cell? ⟨W8.heap.size, 1, none⟩ = some (.int .i64 0) ∧ W3.cell? ⟨W8.heap.size, 2, none⟩ = some (.int .i64 0) ∧ W3.cell? ⟨W8.heap.size, 3, none⟩ = some (.string d)) ∧
      Hid (Calls Tryz.prog 31 #[.pointer (some ⟨db, 0, none⟩), .pointer (some ⟨W5.heap.size, 0, none⟩), .agg #[.int .i64 0, .int .i64 0, .int .i64 0, .string d]] W3 fun e W4 => e = .returned (.tuple #[]) ∧
        (W4.cell? ⟨db, 2, none⟩ = some (.int .i64 (D.used : Int)) ∧ W4.frozen? ⟨db, 2, none⟩ = false) ∧
        Hid (∃ O', DiskAt (W4.setCell ⟨db, 2, none⟩ (.int .i64 ((D.used + d.size : Nat) : Int))) O' db (D.wrote s 0 d) ∧ Past w O (W4.setCell ⟨db, 2, none⟩ (.int .i64 ((D.used + d.size : Nat) : Int))) O'))) := Lib.hid fun W5 W6 wq W8 hB5 hB6 hBq hsz6 hF6 hg hm8 => by
    have hBw := hB6.trans (hBq.mono hB6.size)
    have hs8 : wq.heap.size ≤ W8.heap.size := hg.size
    have hsq := hBq.size
    have hs5 := hB5.size
    have hblk : ∀ k, k < w.heap.size → k ≠ mb → (W8.alloc (.cells #[.int .i64 0, .int .i64 0, .int .i64 0, .string d] 73)).heap[k]? = w.heap[k]? := fun k hk hne => by
      rw [Below.heap_alloc _ _ _ (by omega), hg.block k (by omega) (fun e => hne (by simpa using e)), hBw.block k hk]
    have hfb8 : FB (W8.alloc (.cells #[.int .i64 0, .int .i64 0, .int .i64 0, .string d] 73)) W5.heap.size false (.slice none 0 0) false (.slice none 0 0) false (.slice none 0 0) := by
      refine Eq.trans ?_ hF6
      have hne5 : W5.heap.size ≠ mb := by omega
      rw [Below.heap_alloc _ _ _ (by omega), hg.block _ (by omega) (fun e => hne5 (by simpa using e)), hBq.block _ (by omega)]
    have hv0 : FileV (W8.alloc (.cells #[.int .i64 0, .int .i64 0, .int .i64 0, .string d] 73)) (own O w.heap.size (W8.alloc (.cells #[.int .i64 0, .int .i64 0, .int .i64 0, .string d] 73)).heap.size s) (db + 1) s W5.heap.size (D.now s) (D.safe s) (mine s D.chs) ⟨false, none, 0, none, 0, none, 0⟩ := by
      rw [hnow, hsafe, hmine]
      refine ⟨hfb8, Buf.nil _ _ _, Buf.nil _ _ _, (fun g hg => by cases hg), OwnC.nil _ _, own_new (by omega) (by rw [World.size_alloc]; omega), fun g hg => ?_⟩
      rcases hg with hg | hg | hg <;> cases hg
    have := write_chain (kN := 0) (b := W8.heap.size) (d := d) (v := ⟨false, none, 0, none, 0, none, 0⟩) (F' := fun x => if x = s then some W5.heap.size else F x) hmade hc (fun x hx _ => hf x hx) hs hblk (by rw [World.size_alloc]; omega) ⟨hg.os.trans hBw.os, hg.tape.trans hBw.tape, hg.output.trans hBw.output⟩
      ⟨n + 1, by omega, hm8.at (Below.heap_alloc _ _ _ hm8.lt)⟩ (if_pos rfl) (fun x hx => if_neg hx) hv0 (Nat.zero_le _) (by rw [hns]; omega) (hw.mineLe s) (heap_alloc_new W8 _) (by omega)
    have e : 0 + d.size - szO (D.now s) = d.size := by rw [hns]; omega
    rw [e] at this
    exact this
  obtain ⟨dl, hdl2⟩ : ∃ dl, d.size = dl := ⟨_, rfl⟩
  rw [hdl2] at HX HX8 HC hfit hdl ⊢
  obtain ⟨u, hu1⟩ : ∃ u, D.used = u := ⟨_, rfl⟩
  obtain ⟨r, hr1⟩ : ∃ r, D.room = r := ⟨_, rfl⟩
  rw [hu1] at HX HC hfit hu2
  rw [hr1] at HX hfit hrm
  clear hconv hI hbl hmbl hdb hm hn hf hc h hw hs hright hfail hr h0 hin hus hmade hdl2 hu1 hr1 hns hs63 hmine hsafe hnow hFs hk
  by_cases hpos : 0 < dl
  · have hroom : u + dl ≤ r := by have := hfit (by omega); omega
    have g0 : decide (0 < dl) = true := by simp; omega
    have g1 : IntKind.i64.wrap ((u : Int) + (dl : Int)) = ((u + dl : Nat) : Int) := by rw [IntKind.wrap_i64]; omega
    have g2 : decide (r < u + dl) = false := by simp; omega
    clear hfit
    go_enter Tryz.func9, Tryz.ntmps9
    go_wp2_with fail
    refine CR.out.mono ?_
    rintro e W ⟨rfl, hB⟩
    go_wp2_with fail
    obtain ⟨na, sa, ca, nc, sl, sc, cl, cc, nt, st, sh, cK⟩ := CK.out W hB
    have CKK := Lib.hid cK
    clear cK
    refine CKK.out.mono ?_
    rintro e W2 ⟨rfl, hB2⟩
    have q0 := field_now nt st sh na sa ca 0 nc sl sc cl cc
    have q1 := field_bytes nt na 0 nc
    have hBB := hB.trans (hB2.mono hB.size)
    have HBB := Lib.hid hBB
    obtain ⟨⟨k0, k1, k2⟩, _, _, _⟩ := HX.out W2 hBB
    clear hB hB2 hBB
    go_wp2_with fail
    go_quiet (fail)
    have HB5 := Lib.hid (below_drewN (m := nq) HBB.out)
    clear HBB
    generalize W2.drewN nq = W5 at HB5 ⊢
    obtain ⟨⟨p0, _, _⟩, _, _, hw5⟩ := HX.out W5 HB5.out
    go_wp2_with (first | (refine wpList_lookup_ran (o := ⟨some 57, _, _, _, _, _⟩) rfl _ _ _ _ rfl rfl rfl (HX.out _ HB5.out).2.1 ?_))
    obtain ⟨W6, hW6⟩ : ∃ W6, W5.alloc (.cells #[.bool false, .slice none 0 0, .bool false, .slice none 0 0, .bool false, .slice none 0 0] 68) = W6 := ⟨_, rfl⟩
    rw [hW6]
    have hsz6 : W6.heap.size = W5.heap.size + 1 := by rw [← hW6]; simp
    have hB6 : Below w.heap.size w W6 := by rw [← hW6]; exact HB5.out.alloc HB5.out.size _
    have hF6 : FB W6 W5.heap.size false (.slice none 0 0) false (.slice none 0 0) false (.slice none 0 0) := by rw [← hW6]; exact heap_alloc_new W5 _
    obtain ⟨⟨p06, _, _⟩, _, _, _⟩ := HX.out W6 hB6
    have p6 := fun d os => cell_regrown p06 d os
    have CCL : Hid (∀ d os, Calls Tryz.prog 29 #[.string s] (grow (redrawn W6 d) os) fun e W => e = .returned (.string s) ∧ ∃ p : Regrown, W = grow (redrawn W6 p.d) p.os) := Lib.hid fun d os => Calls.regrown_of (CS.out _)
    have H6 := Lib.hid (And.intro hB6 (And.intro hF6 hsz6))
    clear hB6 hF6 p0 p06 hW6 hsz6
    refine wp_region_quiet_tail (C := fun w' => ∃ p : Regrown, w' = grow (redrawn W6 p.d) p.os) 7 (by kernel_rfl) (by kernel_rfl) ⟨⟨W6.drawn + 1, #[]⟩, by rw [grow_empty]; rfl⟩ ?_
    simp only [List.take_succ_cons, List.take_zero, List.drop_succ_cons, List.drop_zero]
    repeat (go_big_quiet_step ((first | exact CCL.out _ _)))
    refine wpQuiet_nil ?_
    intro wq hq
    obtain ⟨⟨dq, osq⟩, rfl⟩ := hq
    have hBq : Below W6.heap.size W6 (grow (redrawn W6 dq) osq) := below_regrown W6 dq osq
    obtain ⟨hB6, hF6, hsz6⟩ := H6.out
    generalize grow (redrawn W6 dq) osq = wq at hBq ⊢
    obtain ⟨W8, hst, hm8, hg8⟩ := HM.out wq W5.heap.size (hB6.trans (hBq.mono hB6.size))
    have hfin := HC.out W5 W6 wq W8 HB5.out hB6 hBq hsz6 hF6 hg8 hm8
    have hX8 := HX8.out W6 wq W8 hB6 hBq hg8
    have HST := Lib.hid hst
    have HFIN := Lib.hid hfin
    have HX88 := Lib.hid hX8
    clear hst hm8 hg8 hfin hBq hB6 hF6 hX8 H6 p6 CCL hsz6
    refine wpList_mapUpdate_ran rfl _ _ _ _ rfl rfl rfl rfl HST.out ?_
    clear HST
    go_wp2_with (first | (refine wpList_exec_ran (o := ⟨some 71, _, _, _, _, _⟩) rfl (run_conv HX88.out) ?_))
    refine HFIN.out.mono ?_
    rintro e W9 ⟨rfl, ⟨r0, r1, r2, r3⟩, HN⟩
    go_wp2_with fail
    refine HN.out.mono ?_
    rintro e W10 ⟨rfl, ⟨s0, s1⟩, HF⟩
    go_wp2_with fail
    go_ret
    exact ⟨rfl, HF.out⟩
  · obtain rfl : dl = 0 := by omega
    clear hfit hpos
    go_enter Tryz.func9, Tryz.ntmps9
    go_wp2_with fail
    refine CR.out.mono ?_
    rintro e W ⟨rfl, hB⟩
    go_wp2_with fail
    obtain ⟨na, sa, ca, nc, sl, sc, cl, cc, nt, st, sh, cK⟩ := CK.out W hB
    have CKK := Lib.hid cK
    clear cK
    refine CKK.out.mono ?_
    rintro e W2 ⟨rfl, hB2⟩
    have q0 := field_now nt st sh na sa ca 0 nc sl sc cl cc
    have q1 := field_bytes nt na 0 nc
    have hBB := hB.trans (hB2.mono hB.size)
    have HBB := Lib.hid hBB
    obtain ⟨⟨k0, k1, k2⟩, _, _, _⟩ := HX.out W2 hBB
    clear hB hB2 hBB
    go_wp2_with fail
    go_quiet (fail)
    have HB5 := Lib.hid (below_drewN (m := nq) HBB.out)
    clear HBB
    generalize W2.drewN nq = W5 at HB5 ⊢
    obtain ⟨⟨p0, _, _⟩, _, _, hw5⟩ := HX.out W5 HB5.out
    go_wp2_with (first | (refine wpList_lookup_ran (o := ⟨some 57, _, _, _, _, _⟩) rfl _ _ _ _ rfl rfl rfl (HX.out _ HB5.out).2.1 ?_))
    obtain ⟨W6, hW6⟩ : ∃ W6, W5.alloc (.cells #[.bool false, .slice none 0 0, .bool false, .slice none 0 0, .bool false, .slice none 0 0] 68) = W6 := ⟨_, rfl⟩
    rw [hW6]
    have hsz6 : W6.heap.size = W5.heap.size + 1 := by rw [← hW6]; simp
    have hB6 : Below w.heap.size w W6 := by rw [← hW6]; exact HB5.out.alloc HB5.out.size _
    have hF6 : FB W6 W5.heap.size false (.slice none 0 0) false (.slice none 0 0) false (.slice none 0 0) := by rw [← hW6]; exact heap_alloc_new W5 _
    obtain ⟨⟨p06, _, _⟩, _, _, _⟩ := HX.out W6 hB6
    have p6 := fun d os => cell_regrown p06 d os
    have CCL : Hid (∀ d os, Calls Tryz.prog 29 #[.string s] (grow (redrawn W6 d) os) fun e W => e = .returned (.string s) ∧ ∃ p : Regrown, W = grow (redrawn W6 p.d) p.os) := Lib.hid fun d os => Calls.regrown_of (CS.out _)
    have H6 := Lib.hid (And.intro hB6 (And.intro hF6 hsz6))
    clear hB6 hF6 p0 p06 hW6 hsz6
    refine wp_region_quiet_tail (C := fun w' => ∃ p : Regrown, w' = grow (redrawn W6 p.d) p.os) 7 (by kernel_rfl) (by kernel_rfl) ⟨⟨W6.drawn + 1, #[]⟩, by rw [grow_empty]; rfl⟩ ?_
    simp only [List.take_succ_cons, List.take_zero, List.drop_succ_cons, List.drop_zero]
    repeat (go_big_quiet_step ((first | exact CCL.out _ _)))
    refine wpQuiet_nil ?_
    intro wq hq
    obtain ⟨⟨dq, osq⟩, rfl⟩ := hq
    have hBq : Below W6.heap.size W6 (grow (redrawn W6 dq) osq) := below_regrown W6 dq osq
    obtain ⟨hB6, hF6, hsz6⟩ := H6.out
    generalize grow (redrawn W6 dq) osq = wq at hBq ⊢
    obtain ⟨W8, hst, hm8, hg8⟩ := HM.out wq W5.heap.size (hB6.trans (hBq.mono hB6.size))
    have hfin := HC.out W5 W6 wq W8 HB5.out hB6 hBq hsz6 hF6 hg8 hm8
    have hX8 := HX8.out W6 wq W8 hB6 hBq hg8
    have HST := Lib.hid hst
    have HFIN := Lib.hid hfin
    have HX88 := Lib.hid hX8
    clear hst hm8 hg8 hfin hBq hB6 hF6 hX8 H6 p6 CCL hsz6
    refine wpList_mapUpdate_ran rfl _ _ _ _ rfl rfl rfl rfl HST.out ?_
    clear HST
    go_wp2_with (first | (refine wpList_exec_ran (o := ⟨some 71, _, _, _, _, _⟩) rfl (run_conv HX88.out) ?_))
    refine HFIN.out.mono ?_
    rintro e W9 ⟨rfl, ⟨r0, r1, r2, r3⟩, HN⟩
    go_wp2_with fail
    refine HN.out.mono ?_
    rintro e W10 ⟨rfl, ⟨s0, s1⟩, HF⟩
    go_wp2_with fail
    go_ret
    exact ⟨rfl, HF.out⟩

/-- Write. -/
theorem write_calls (w : World) (O : Owner) (db : Nat) (D : DS) (h : DiskAt w O db D) (hw : WF D) (hmade : D.made ≤ 4294967296) (s : ByteArray) (hs63 : s.size ≤ 9223372036854775807) (k : Int) (hk63 : k ≤ 9223372036854775807) (dv : Value) (d : ByteArray) (hdl : d.size ≤ 140737488351232) (hI : Bytes w.heap.size w dv (bytesS d)) :
    Calls Tryz.prog 9 #[.pointer (some ⟨db, 0, none⟩), .string s, .int .i64 k, dv] w (WroteD w O db D s k d) := by
  by_cases h0 : D.writeN s k d.size = 0
  · obtain ⟨hr, _, _⟩ := writeN_zero h0
    obtain ⟨_, _, hk0⟩ := refN_zero hr
    obtain ⟨kN, rfl⟩ : ∃ kN : Nat, k = (kN : Nat) := ⟨k.toNat, by omega⟩
    have : D.write s (kN : Nat) d = D.wrote s kN d := by unfold DS.write; rw [if_pos h0]; rfl
    unfold WroteD
    rw [h0, this]
    by_cases hin : s ∈ D.names
    · exact write_old w O db D h hw hmade s kN dv d hdl hI h0 hin
    · exact write_new w O db D h hw hmade s kN dv d hdl hI h0 hin
  · have : D.write s k d = D := by unfold DS.write; rw [if_neg h0]
    unfold WroteD
    rw [this]
    obtain ⟨A, cap, rfl⟩ := hI.form
    rw [bytesS_length]
    refine (write_err w O db D h hw hmade s hs63 k hk63 A d.size cap hdl h0).mono ?_
    rintro e W ⟨rfl, hB⟩
    exact ⟨rfl, O, h.below hB, Past.of_below O hB⟩

end Go.Proofs.YtnhkpemajknfnaaGreatDoor.Disk

/-
  Contracts of the disk's settled and Sync.
-/
namespace Go.Proofs.YtnhkpemajknfnaaGreatDoor.Disk
open Go Go.RowKit Go.Lib Go.Proofs.YtnhkpemajknfnaaGreatDoor.Law

/-- A file that is as durable as it is. -/
def SettledOut (w : World) (there : Bool) (v : Value) (e : Ending) (W : World) : Prop := e = .returned (.agg #[.bool there, v, .bool there, v, .bool true, .slice none 0 0]) ∧ Below w.heap.size w W

set_option maxRecDepth 100000 in
set_option maxHeartbeats 1000000 in
theorem settled_calls (there : Bool) (A : Option Addr) (n c : Nat) (w : World) : Calls Tryz.prog 32 #[.agg #[.bool there, .slice A n c]] w (SettledOut w there (.slice A n c)) := by
  go_enter Tryz.func32, Tryz.ntmps32
  go_wp2_with fail
  refine bodyPost_ret (v := .agg #[.bool there, .slice A n c, .bool there, .slice A n c, .bool true, .slice none 0 0]) (by simp [results, Tryz.results32, go_sem]) rfl ⟨rfl, ?_⟩
  exact ((Below.refl _ _).alloc (Nat.le_refl _) _).alloc (by simp) _

/-- What Sync leaves. -/
def SyncedD (w : World) (O : Owner) (db : Nat) (D : DS) (s : ByteArray) (e : Ending) (W : World) : Prop :=
  e = .returned (.int .i64 (D.syncN s : Nat)) ∧ ∃ O', DiskAt W O' db (D.sync s) ∧ Past w O W O'

/-- The six cells of a file are written over. -/
def setFile (W : World) (fb : Nat) (there : Bool) (v : Value) : World :=
  (((((W.setCell ⟨fb, 0, none⟩ (.bool there)).setCell ⟨fb, 1, none⟩ v).setCell ⟨fb, 2, none⟩ (.bool there)).setCell ⟨fb, 3, none⟩ v).setCell ⟨fb, 4, none⟩ (.bool true)).setCell ⟨fb, 5, none⟩ (.slice none 0 0)
theorem setFile_other {W : World} {fb k : Nat} {there : Bool} {v : Value} (h : k ≠ fb) : (setFile W fb there v).heap[k]? = W.heap[k]? := by
  unfold setFile
  rw [Below.heap_setCell _ _ _ _ h, Below.heap_setCell _ _ _ _ h, Below.heap_setCell _ _ _ _ h, Below.heap_setCell _ _ _ _ h, Below.heap_setCell _ _ _ _ h, Below.heap_setCell _ _ _ _ h]
theorem setFile_size (W : World) (fb : Nat) (there : Bool) (v : Value) : (setFile W fb there v).heap.size = W.heap.size := by simp [setFile, World.setCell]
theorem setFile_file {W : World} {fb : Nat} {nt st sh there : Bool} {nv sv cv v : Value} (h : FB W fb nt nv st sv sh cv) : FB (setFile W fb there v) fb there v there v true (.slice none 0 0) := by
  have h1 := block_set h 0 (.bool there)
  have h2 := block_set h1 1 v
  have h3 := block_set h2 2 (.bool there)
  have h4 := block_set h3 3 v
  have h5 := block_set h4 4 (.bool true)
  have h6 := block_set h5 5 (.slice none 0 0)
  exact h6.trans (by simp)

/-- The disk behind a sync of a file that is there. -/
theorem sync_done {w w0 : World} {O : Owner} {db mb fb : Nat} {D : DS} {F : ByteArray → Option Nat} {s : ByteArray} {v : KV}
    (hc : Core w O db mb D F) (hf : ∀ x ∈ D.names, x ≠ s → ∃ fb, F x = some fb ∧ FileAt w O (db + 1) x fb (D.now x) (D.safe x) (mine x D.chs)) 
    (hB : Below w.heap.size w w0) (hFs : F s = some fb) (hv : FileV w O (db + 1) s fb (D.now s) (D.safe s) (mine s D.chs) v) (hthere : (D.now s).isSome = true) :
    ∃ O', DiskAt (setFile w0 fb true (v.now (szO (D.now s)))) O' db (D.syncD s) ∧ Past w O (setFile w0 fb true (v.now (szO (D.now s)))) O' := by
  have hdb := hc.disk.lt
  have hmb : mb < w.heap.size := hc.lt mb (by rw [hc.omb]; simp)
  obtain ⟨v1, v2, v3, v4, v5, v6, v7⟩ := hv
  have hdbf : db ≠ fb := fun e => by rw [← e, hc.odb] at v6; cases v6
  have hmbf : mb ≠ fb := fun e => by rw [← e, hc.omb] at v6; cases v6
  have hnone : D.now s ≠ none := fun e => by rw [e] at hthere; cases hthere
  have hnvb := v2.own
  have hsz := setFile_size w0 fb true (v.now (szO (D.now s)))
  have hoth := fun k (hk : k ≠ fb) => setFile_other (W := w0) (there := true) (v := v.now (szO (D.now s))) hk
  have hown := setFile_file (there := true) (v := v.now (szO (D.now s))) (v1.below hB)
  have h3 : (setFile w0 fb true (v.now (szO (D.now s)))).os = w0.os ∧ (setFile w0 fb true (v.now (szO (D.now s)))).tape = w0.tape ∧ (setFile w0 fb true (v.now (szO (D.now s)))).output = w0.output := by simp [setFile, World.setCell]
  obtain ⟨W, hW⟩ : ∃ W, setFile w0 fb true (v.now (szO (D.now s))) = W := ⟨_, rfl⟩
  rw [hW] at hsz hoth hown h3 ⊢
  refine ⟨_, DiskAt.turned (fb := fb) (F' := F) hc hf ?_ ?_ ?_ (by rw [hsz]; exact hB.size) ?_ ?_ ?_ (h3.1.trans hB.os) (h3.2.1.trans hB.tape) (h3.2.2.trans hB.output)⟩
  · exact (hoth db hdbf).trans (hc.disk.below hB)
  · obtain ⟨n, hn, hm⟩ := hc.map
    exact ⟨n, hn, hm.at ((hoth mb hmbf).trans (hB.block mb hmb))⟩
  · intro x hx
    show (F x).isSome ↔ x ∈ (if D.now s = none then D.names.erase s else D.names)
    rw [if_neg hnone]
    exact hc.dom x hx
  · intro k hk ho
    obtain ⟨h1, h2⟩ := not_of_owner ho
    rw [hoth k (fun e => h2 (by rw [e]; exact v6)), hB.block k hk]
  · intro x hx hxs
    have hx' : x ∈ (if D.now s = none then D.names.erase s else D.names) := hx
    rw [if_neg hnone] at hx'
    exact ⟨hx', rfl, rfl, upd_other _ _ hxs, mine_others _ _ hxs _⟩
  · intro _
    refine ⟨hFs, ?_⟩
    have e1 : (D.syncD s).safe s = D.now s := upd_same _ _ _
    have e2 : mine s (D.syncD s).chs = [] := mine_others_same _ _
    have e3 : (D.syncD s).now s = D.now s := rfl
    rw [e1, e2, e3]
    have hb : Buf W (db + 1) 5 (v.now (szO (D.now s))) ((D.now s).getD []) := (v2.below hB).keep fun g hg => hoth g (fun e => buf_not_file v1 v2 (e ▸ hg))
    refine ⟨true, v.now (szO (D.now s)), v.now (szO (D.now s)), .slice none 0 0, ?_, hb, hb, fun g _ _ => ⟨rfl, .inl (Nat.le_refl _)⟩, OwnC.nil _ _, ?_, ?_⟩
    · rw [hthere]
      exact hown
    · rw [own_old v1.lt]; exact v6
    · rintro g (hg | hg | hg)
      · rw [own_old (v2.own g hg).2]; exact v7 g (.inl hg)
      · rw [own_old (v2.own g hg).2]; exact v7 g (.inl hg)
      · cases hg

/-- The disk behind a sync of a file that isn't there any more. -/
theorem sync_gone {w w0 W : World} {O : Owner} {db mb n : Nat} {D : DS} {F : ByteArray → Option Nat} {s : ByteArray}
    (hc : Core w O db mb D F) (hf : ∀ x ∈ D.names, ∃ fb, F x = some fb ∧ FileAt w O (db + 1) x fb (D.now x) (D.safe x) (mine x D.chs)) (hw : WF D)
    (hB : Below w.heap.size w w0) (hn : n ≤ D.made) (hm : MapP Tryz.prog 9 W mb n (fun x => if x = s then none else F x)) (ht : w0.grownBy W (some mb)) (hnone : D.now s = none) :
    ∃ O', DiskAt W O' db (D.syncD s) ∧ Past w O W O' := by
  have hdb := hc.disk.lt
  have hmb : mb < w.heap.size := hc.lt mb (by rw [hc.omb]; simp)
  have hdbm : db ≠ mb := fun e => by
    obtain ⟨n, _, D0, hD0, _⟩ := hc.map
    have h1 := hc.disk
    unfold DB at h1
    obtain ⟨es, clock, h2, _⟩ := hD0
    rw [e, h2] at h1
    cases h1
  have hs0 := hB.size
  have hs1 : w0.heap.size ≤ W.heap.size := ht.size
  have hblk : ∀ k, k < w.heap.size → k ≠ mb → W.heap[k]? = w.heap[k]? := fun k hk hne => by
    rw [ht.block k (by omega) (fun e => hne (by simpa using e)), hB.block k hk]
  have hmem : ∀ x, x ∈ (D.syncD s).names → x ≠ s ∧ x ∈ D.names := fun x hx => by
    have hx' : x ∈ (if D.now s = none then D.names.erase s else D.names) := hx
    rw [if_pos hnone, hw.nodup.mem_erase_iff] at hx'
    exact hx'
  refine ⟨_, DiskAt.turned (fb := 0) (s := s) (F' := fun x => if x = s then none else F x) hc (fun x hx _ => hf x hx) ?_ ⟨n, hn, hm⟩ ?_ (by omega) ?_ ?_ (fun hx => absurd rfl (hmem s hx).1) (ht.os.trans hB.os) (ht.tape.trans hB.tape) (ht.output.trans hB.output)⟩
  · exact (hblk db hdb hdbm).trans hc.disk
  · intro x hx
    show (if x = s then none else F x).isSome ↔ x ∈ (if D.now s = none then D.names.erase s else D.names)
    rw [if_pos hnone, hw.nodup.mem_erase_iff]
    by_cases hxs : x = s
    · rw [if_pos hxs]; simp [hxs]
    · rw [if_neg hxs, hc.dom x hx]; simp [hxs]
  · intro k hk ho
    obtain ⟨h1, h2⟩ := not_of_owner ho
    exact hblk k hk (fun e => h1 (by rw [e]; exact hc.omb))
  · intro x hx hxs
    exact ⟨(hmem x hx).2, if_neg hxs, rfl, upd_other _ _ hxs, mine_others _ _ hxs _⟩

set_option maxRecDepth 100000 in
set_option maxHeartbeats 4000000 in
theorem sync_calls (w : World) (O : Owner) (db : Nat) (D : DS) (h : DiskAt w O db D) (hw : WF D) (s : ByteArray) (hs63 : s.size ≤ 9223372036854775807) :
    Calls Tryz.prog 10 #[.pointer (some ⟨db, 0, none⟩), .string s] w (SyncedD w O db D s) := by
  obtain ⟨mb, F, hc, hf⟩ := id h
  have CR := Lib.hid (refusal_calls db mb _ _ _ _ s hs63 0 w hc.disk)
  have hmbl : mb < w.heap.size := hc.lt mb (by rw [hc.omb]; simp)
  unfold SyncedD
  by_cases hr : refN D.fails s 0 = 0
  · obtain ⟨hfail, hright, _⟩ := refN_zero hr
    have hs := short_right hright
    rw [hr] at CR
    obtain ⟨n, hn, hm⟩ := hc.map
    by_cases hin : s ∈ D.names
    · have h0 : D.syncN s = 0 := by
        unfold DS.syncN; rw [if_neg (by rw [hr]; simp), if_pos hin]
      have hD : D.sync s = D.syncD s := by unfold DS.sync; rw [if_pos h0]
      rw [h0, hD]
      obtain ⟨fb, hF, hfile⟩ := hf s hin
      obtain ⟨v, hv⟩ := hfile.vals
      obtain ⟨v1, v2, v3, v4, v5, v6, v7⟩ := id hv
      obtain ⟨nt, hnt⟩ : ∃ nt, (D.now s).isSome = nt := ⟨_, rfl⟩
      have HX : Hid (∀ W, Below w.heap.size w W → W.cell? ⟨db, 0, none⟩ = some (.map (some mb)) ∧
          (Instr.lookup 60 (.map (some mb)) (.string s) false).run Tryz.prog W = .ok (.pointer (some ⟨fb, 0, none⟩)) W ∧
          (W.cell? ⟨fb, 0, none⟩ = some (.bool nt) ∧ W.cell? ⟨fb, 1, none⟩ = some (v.now (szO (D.now s))))) := Lib.hid fun W hB => by
        have hd := hc.disk.below hB
        have hf1 := v1.below hB
        rw [hnt] at hf1
        refine ⟨hd.cells.1.1, ?_, hf1.cells.1.1, hf1.cells.1.2.1⟩
        have := (hm.at (W' := W) (hB.block _ hmbl)).look Tryz.underlying9 Tryz.underlying60 (zero_ptr _) hs
        rwa [hF] at this
      cases nt with
      | true =>
        have HF : Hid (∀ W, Below w.heap.size w W → (W.cell? ⟨fb, 0, none⟩).isSome = true ∧ (∀ i, W.frozen? ⟨fb, i, none⟩ = false) ∧ ((∃ x, W.cell? ⟨fb, 2, none⟩ = some x) ∧ (∃ x, W.cell? ⟨fb, 3, none⟩ = some x) ∧ (∃ x, W.cell? ⟨fb, 4, none⟩ = some x) ∧ ∃ x, W.cell? ⟨fb, 5, none⟩ = some x) ∧ ∃ O', DiskAt (setFile W fb true (v.now (szO (D.now s)))) O' db (D.syncD s) ∧ Past w O (setFile W fb true (v.now (szO (D.now s)))) O') := Lib.hid fun W hB => by
          have hf1 := v1.below hB
          refine ⟨by rw [hf1.cells.1.1]; rfl, hf1.cells.2, ⟨⟨_, hf1.cells.1.2.2.1⟩, ⟨_, hf1.cells.1.2.2.2.1⟩, ⟨_, hf1.cells.1.2.2.2.2.1⟩, ⟨_, hf1.cells.1.2.2.2.2.2⟩⟩, sync_done hc (fun x hx _ => hf x hx) hB hF hv hnt⟩
        have CS : Hid (∀ W, Calls Tryz.prog 32 #[.agg #[.bool true, v.now (szO (D.now s))]] W (SettledOut W true (v.now (szO (D.now s))))) := Lib.hid fun W => settled_calls true _ _ _ W
        obtain ⟨ns, hns⟩ : ∃ ns, szO (D.now s) = ns := ⟨_, rfl⟩
        obtain ⟨na, nc, hvn⟩ : ∃ na nc, v.now ns = .slice na ns nc := ⟨v.na, v.nc, rfl⟩
        rw [hns, hvn] at HX HF CS
        clear v1 v2 v3 v4 v5 v6 v7 hv hfile hF hm hn hf hc h hw hs hright hfail hr h0 hD hin hmbl hnt hns hvn
        go_enter Tryz.func10, Tryz.ntmps10
        go_wp2_with fail
        refine CR.out.mono ?_
        rintro e W ⟨rfl, hB⟩
        have HB := Lib.hid hB
        obtain ⟨x0, _, x2, x3⟩ := HX.out W hB
        clear hB
        go_wp2_with (first | (refine wpList_lookup_ran (o := ⟨some 18, _, _, _, _, _⟩) rfl _ _ _ _ rfl rfl rfl (HX.out _ HB.out).2.1 ?_))
        refine (CS.out _).mono ?_
        rintro e W2 ⟨rfl, hB2⟩
        obtain ⟨y1, y2, ⟨⟨_, y3⟩, ⟨_, y4⟩, ⟨_, y5⟩, ⟨_, y6⟩⟩, hfin⟩ := HF.out W2 (HB.out.trans (hB2.mono HB.out.size))
        obtain ⟨_, _, z0, z1⟩ := HX.out W2 (HB.out.trans (hB2.mono HB.out.size))
        have HFIN := Lib.hid hfin
        have y20 := y2 0
        have y21 := y2 1
        have y22 := y2 2
        have y23 := y2 3
        have y24 := y2 4
        have y25 := y2 5
        clear hfin hB2 y1 y2
        go_wp2_with fail
        go_ret
        exact ⟨rfl, HFIN.out⟩
      | false =>
        have hnone : D.now s = none := by
          cases hq : D.now s with
          | none => rfl
          | some b => rw [hq] at hnt; cases hnt
        have HM : Hid (∀ W, Below w.heap.size w W → ∃ w', (Builtin.delete_ #[60, 9] 0 #[.map (some mb), .string s]).run Tryz.prog W = .ok (.tuple #[]) w' ∧ ∃ O', DiskAt w' O' db (D.syncD s) ∧ Past w O w' O') := Lib.hid fun W hB => by
          obtain ⟨w', hrun, h1, h2⟩ := (hm.at (W' := W) (hB.block _ hmbl)).drop Tryz.underlying9 Tryz.underlying60 hs 0
          exact ⟨w', hrun, sync_gone hc hf hw hB hn h1 h2.grown hnone⟩
        obtain ⟨x, hx⟩ : ∃ x, v.now (szO (D.now s)) = x := ⟨_, rfl⟩
        rw [hx] at HX
        clear v1 v2 v3 v4 v5 v6 v7 hv hfile hF hm hn hf hc h hw hs hright hfail hr h0 hD hin hmbl hnt hx
        go_enter Tryz.func10, Tryz.ntmps10
        go_wp2_with fail
        refine CR.out.mono ?_
        rintro e W ⟨rfl, hB⟩
        have HB := Lib.hid hB
        obtain ⟨x0, _, x2, x3⟩ := HX.out W hB
        obtain ⟨w', hrun, hfin⟩ := HM.out W hB
        have HFIN := Lib.hid hfin
        clear hB hfin
        go_wp2_with (first | (refine wpList_lookup_ran (o := ⟨some 18, _, _, _, _, _⟩) rfl _ _ _ _ rfl rfl rfl (HX.out _ HB.out).2.1 ?_))
        go_ret
        exact ⟨rfl, HFIN.out⟩
    · have h0 : D.syncN s = 7 := by
        unfold DS.syncN; rw [if_neg (by rw [hr]; simp), if_neg hin]
      have hD : D.sync s = D := by unfold DS.sync; rw [if_neg (by rw [h0]; decide)]
      rw [h0, hD]
      have hFs : F s = none := by
        cases hq : F s with
        | none => rfl
        | some fb => exact absurd ((hc.dom s hs).1 (by rw [hq]; rfl)) hin
      have HX : Hid (∀ W, Below w.heap.size w W → W.cell? ⟨db, 0, none⟩ = some (.map (some mb)) ∧
          (Instr.lookup 60 (.map (some mb)) (.string s) false).run Tryz.prog W = .ok (.pointer none) W) := Lib.hid fun W hB => by
        have hd := hc.disk.below hB
        refine ⟨hd.cells.1.1, ?_⟩
        have := (hm.at (W' := W) (hB.block _ hmbl)).look Tryz.underlying9 Tryz.underlying60 (zero_ptr _) hs
        rwa [hFs] at this
      have HK : Hid (∀ W, Below w.heap.size w W → DiskAt W O db D ∧ Past w O W O) := Lib.hid fun W hB => ⟨h.below hB, Past.of_below O hB⟩
      clear hm hn hf hc h hw hs hright hfail hr h0 hD hin hmbl hFs
      go_enter Tryz.func10, Tryz.ntmps10
      go_wp2_with fail
      refine CR.out.mono ?_
      rintro e W ⟨rfl, hB⟩
      have HB := Lib.hid hB
      obtain ⟨x0, _⟩ := HX.out W hB
      clear hB
      go_wp2_with (first | (refine wpList_lookup_ran (o := ⟨some 18, _, _, _, _, _⟩) rfl _ _ _ _ rfl rfl rfl (HX.out _ HB.out).2 ?_))
      go_ret
      exact ⟨rfl, O, HK.out _ HB.out⟩
  · have h0 : D.syncN s = refN D.fails s 0 := by
      unfold DS.syncN; rw [if_pos hr]
    have hD : D.sync s = D := by unfold DS.sync; rw [if_neg (by rw [h0]; exact hr)]
    rw [h0, hD]
    obtain ⟨n, hn⟩ : ∃ n, refN D.fails s 0 = n := ⟨_, rfl⟩
    rw [hn] at CR hr ⊢
    have hnI : ((n : Int) != 0) = true := by rw [bne_iff_ne]; omega
    have HK : Hid (∀ W, Below w.heap.size w W → DiskAt W O db D ∧ Past w O W O) := Lib.hid fun W hB => ⟨h.below hB, Past.of_below O hB⟩
    clear hn h0 hD hr h hc hf hw hmbl
    go_enter Tryz.func10, Tryz.ntmps10
    go_wp2_with fail
    refine CR.out.mono ?_
    rintro e W ⟨rfl, hB⟩
    have HB := Lib.hid hB
    clear hB
    go_wp2_with fail
    go_ret
    exact ⟨rfl, O, HK.out _ HB.out⟩

end Go.Proofs.YtnhkpemajknfnaaGreatDoor.Disk

/-
  Contracts of the disk's Read, Durable, Pending, Used, Fail, Limit.
-/
namespace Go.Proofs.YtnhkpemajknfnaaGreatDoor.Disk
open Go Go.RowKit Go.Lib Go.Proofs.YtnhkpemajknfnaaGreatDoor.Law

/-- What Read and Durable leave: bytes of the call's own. -/
def ReadD (w : World) (o : Option (List Nat)) (e : Ending) (W : World) : Prop := ∃ v, e = .returned (.tuple #[v, .bool o.isSome]) ∧ OwnB W w.heap.size 5 v (o.getD []) ∧ Below w.heap.size w W

theorem readD_of {w W W2 : World} {o : Option (List Nat)} {e : Ending} (hB : Below w.heap.size w W) (h : ReadOut W o.isSome (o.getD []) e W2) : ReadD w o e W2 := by
  obtain ⟨v, he, hO, hB2⟩ := h
  exact ⟨v, he, ownB_low hO hB.size, hB.trans (hB2.mono hB.size)⟩

set_option maxRecDepth 100000 in
set_option maxHeartbeats 2000000 in
theorem readD_calls (w : World) (O : Owner) (db : Nat) (D : DS) (h : DiskAt w O db D) (hw : WF D) (s : ByteArray) (hs : Short s) :
    Calls Tryz.prog 11 #[.pointer (some ⟨db, 0, none⟩), .string s] w (ReadD w (D.now s)) := by
  obtain ⟨v, ns, sl, cl, nt, st, ⟨h1, h2, h3, h4⟩, hb, hb2, hc⟩ := known_at h hw s hs
  obtain ⟨sh, na, nc, sa, sc, ca, cc⟩ := v
  have CK : Hid (Calls Tryz.prog 28 #[.pointer (some ⟨db, 0, none⟩), .string s] w (KnownOut w (.agg #[.bool nt, .slice na ns nc, .bool st, .slice sa sl sc, .bool sh, .slice ca cl cc]))) := Lib.hid hc
  have CR : Hid (∀ W, Below w.heap.size w W → Calls Tryz.prog 33 #[.agg #[.bool nt, .slice na ns nc]] W fun e W2 => ∃ A n c, e = .returned (.tuple #[.slice A n c, .bool nt]) ∧ Hid (ReadD w (D.now s) e W2)) := Lib.hid fun W hB => by
    have hl := hw.nowLe s
    have e := read_calls nt (.slice na ns nc) ((D.now s).getD []) (by rw [szO_getD]; omega) W (Buf.bytes (hb.below hB))
    refine e.mono ?_
    intro e W2 hr
    obtain ⟨v', rfl, hO, _⟩ := id hr
    obtain ⟨A, c, rfl⟩ := hO.bytes.form
    refine ⟨A, _, c, rfl, Lib.hid ?_⟩
    rw [h1] at hr ⊢
    exact readD_of hB hr
  have q0 := field_now nt st sh na sa ca ns nc sl sc cl cc
  clear hc hb hb2 h hw h1 h2 h3 h4
  go_enter Tryz.func11, Tryz.ntmps11
  go_wp2_with fail
  refine CK.out.mono ?_
  rintro e W ⟨rfl, hB⟩
  have cR := CR.out W hB
  have CRR := Lib.hid cR
  clear cR hB
  go_wp2_with fail
  refine CRR.out.mono ?_
  rintro e W2 ⟨A, n, c, rfl, HR⟩
  go_wp2_with fail
  go_ret2
  exact HR.out

/-- How many changes the names to come have. -/
def chCount (names : List ByteArray) (l : List (ByteArray × Chg)) : Nat := (names.map fun s => (mine s l).length).sum
theorem count_perm (l : List (ByteArray × Chg)) {a b : List ByteArray} (h : a.Perm b) : chCount a l = chCount b l := by
  unfold chCount; exact (h.map _).sum_nat
theorem mine_cons (s : ByteArray) (x : ByteArray × Chg) (l : List (ByteArray × Chg)) : mine s (x :: l) = (if x.1 = s then [x.2] else []) ++ mine s l := by
  unfold mine
  by_cases h : x.1 = s
  · rw [List.filter_cons_of_pos (by simpa using h)]; simp [h]
  · rw [List.filter_cons_of_neg (by simpa using h)]; simp [h]
theorem count_cons_out (x : ByteArray × Chg) (l : List (ByteArray × Chg)) : ∀ names : List ByteArray, x.1 ∉ names → chCount names (x :: l) = chCount names l
  | [], _ => rfl
  | a :: r, h => by
    have h1 : x.1 ≠ a := fun e => h (by simp [e])
    have := count_cons_out x l r (fun e => h (List.mem_cons_of_mem _ e))
    unfold chCount at this ⊢
    rw [List.map_cons, List.map_cons, List.sum_cons, List.sum_cons, this, mine_cons, if_neg h1]
    simp
theorem count_cons_in (x : ByteArray × Chg) (l : List (ByteArray × Chg)) : ∀ names : List ByteArray, names.Nodup → x.1 ∈ names → chCount names (x :: l) = chCount names l + 1
  | [], _, h => by simp at h
  | a :: r, hn, h => by
    rw [List.nodup_cons] at hn
    by_cases ha : x.1 = a
    · have := count_cons_out x l r (by rw [ha]; exact hn.1)
      unfold chCount at this ⊢
      rw [List.map_cons, List.map_cons, List.sum_cons, List.sum_cons, this, mine_cons, if_pos ha]
      simp; omega
    · have h2 : x.1 ∈ r := by
        rcases List.mem_cons.1 h with e | e
        · exact absurd e ha
        · exact e
      have := count_cons_in x l r hn.2 h2
      unfold chCount at this ⊢
      rw [List.map_cons, List.map_cons, List.sum_cons, List.sum_cons, this, mine_cons, if_neg ha]
      simp; omega
theorem count_all (names : List ByteArray) (hn : names.Nodup) : ∀ l : List (ByteArray × Chg), (∀ x ∈ l, x.1 ∈ names) → chCount names l = l.length
  | [], _ => by
    unfold chCount
    have : (names.map fun s => (mine s ([] : List (ByteArray × Chg))).length) = names.map fun _ => 0 := rfl
    rw [this]
    clear this hn
    induction names with
    | nil => rfl
    | cons a r ih => simpa using ih
  | x :: l, h => by
    rw [count_cons_in x l names hn (h x (by simp)), count_all names hn l (fun y hy => h y (List.mem_cons_of_mem _ hy))]; rfl
theorem WF.countAll {D : DS} (h : WF D) : chCount D.names D.chs = D.chs.length := count_all _ h.nodup _ fun x hx => (h.names x.1).2 (.inr (.inr ⟨x.2, hx⟩))

end Go.Proofs.YtnhkpemajknfnaaGreatDoor.Disk
