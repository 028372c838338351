/-
  Put together out of texts of one chain: what they hold stands ahead of each.
-/
import Derived.Test.YtmegiilkcidanaaGDiskCopies11
/-
  Contracts of the disk's Cut and Remove.
-/
namespace Go.Proofs.Ytmegiilkcidanaa.Disk
open Go Go.RowKit Go.Sort Go.Lib Go.Proofs.Ytmegiilkcidanaa.Law

/-- What a cut leaves. -/
def CutDone (w : World) (O : Owner) (db : Nat) (D : DS) (s : ByteArray) (k : Int) (e : Ending) (W : World) : Prop :=
  e = .returned (.int .i64 (D.cutN s k : Nat)) ∧ ∃ O', DiskAt W O' db (D.cut s k) ∧ Past w O W O'

theorem buf_facts {W : World} {base : Nat} {A : Option Addr} {n c : Nat} {bs : List Nat} (h : Buf W base 5 (.slice A n c) bs) : (A = none → c = 0) ∧ (∀ a, A = some a → a.spot = none) ∧ n ≤ c ∧ c ≤ maxLen := by
  rcases h.2 with ⟨h1, _⟩ | ⟨g, cap', cur, h1, _, _, h2, _, h3, _⟩
  · simp only [Value.slice.injEq] at h1
    obtain ⟨rfl, rfl, rfl⟩ := h1
    exact ⟨fun _ => rfl, (fun a e => by cases e), Nat.le_refl _, Nat.zero_le _⟩
  · simp only [Value.slice.injEq] at h1
    obtain ⟨rfl, rfl, rfl⟩ := h1
    exact ⟨(fun e => by cases e), (fun a e => by obtain rfl := (Option.some.inj e).symm; rfl), h2, h3⟩

/-- The blocks of a file lie otherwise than its changes. -/
theorem filev_apart {W : World} {O : Owner} {base fb : Nat} {s : ByteArray} {now safe : Option (List Nat)} {cs : List Chg} {v : KV} (h : FileV W O base s fb now safe cs v) : ∀ g, (v.chs cs.length).ownBlock = some g → g ≠ fb := fun g hg e => by
  obtain ⟨v1, v2, v3, v4, v5, v6, v7⟩ := h
  rcases v5.2 with ⟨h1, _⟩ | ⟨g1, cap, cur, h1, _, h2, _⟩
  · rw [h1] at hg; cases hg
  · rw [h1] at hg
    have : g1 = g := by simpa [Value.ownBlock] using hg
    subst this
    unfold FB at v1
    rw [e, v1] at h2
    have := Option.some.inj h2
    injection this with _ h2 _
    exact absurd h2 (by decide)

set_option maxRecDepth 100000 in
set_option maxHeartbeats 4000000 in
theorem cut_ok (w : World) (O : Owner) (db : Nat) (D : DS) (h : DiskAt w O db D) (hw : WF D) (hmade : D.made ≤ 4294967296) (s : ByteArray) (k : Nat) (hr : refN D.fails s (k : Int) = 0) (hnow : (D.now s).isSome = true) (hk : k ≤ szO (D.now s)) :
    Calls Try.prog 24 #[.pointer (some ⟨db, 0, none⟩), .string s, .int .i64 (k : Nat)] w fun e W => e = .returned (.int .i64 0) ∧ ∃ O', DiskAt W O' db (D.cutD s k) ∧ Past w O W O' := by
  obtain ⟨_, hright, _⟩ := refN_zero hr
  have hs := short_right hright
  obtain ⟨mb, F, hc, hf⟩ := id h
  have hin : s ∈ D.names := (hw.names s).2 (.inl fun e => by rw [e] at hnow; cases hnow)
  obtain ⟨fb, hF, hfile⟩ := hf s hin
  obtain ⟨v, hv⟩ := hfile.vals
  obtain ⟨n, hn, hm⟩ := hc.map
  have hdb := hc.disk.lt
  have hmbl : mb < w.heap.size := hc.lt mb (by rw [hc.omb]; simp)
  have CR := Lib.hid (refusal_calls db mb _ _ _ _ s (by unfold Short at hs; simp only [maxLen] at hs; omega) (k : Int) w hc.disk)
  rw [hr] at CR
  have hsz := hw.nowLe s
  have hus := hw.usedLe
  have hu2 : D.used ≤ 4611686018427387904 := Nat.le_trans hus (Nat.le_trans (Nat.mul_le_mul_right _ hmade) (by decide))
  have hge : szO (D.now s) ≤ D.used := by rw [hw.used]; exact total_ge _ _ _ hin
  obtain ⟨v1, v2, v3, v4, v5, v6, v7⟩ := id hv
  obtain ⟨b1, b2, b3, b4⟩ := buf_facts v2
  have hcut := v2.cut k (by rw [szO_getD]; exact hk) (fun e => by have := b1 e; omega)
  have CK : Hid (∀ W, Below w.heap.size w W → Calls Try.prog 40 #[.pointer (some ⟨db, 0, none⟩), .string s] W (KnownOut W (.agg #[.bool (D.now s).isSome, v.now (szO (D.now s)), .bool (D.safe s).isSome, v.safe (szO (D.safe s)), .bool v.sh, v.chs (mine s D.chs).length]))) := Lib.hid fun W hB =>
    known_some db mb _ _ _ _ n F s hs W (hc.disk.below hB) (hm.at (hB.block mb hmbl)) fb hF _ _ _ _ _ _ _ _ _ _ _ _ (v1.below hB)
  have HX : Hid (∀ W, Below w.heap.size w W → W.cell? ⟨db, 0, none⟩ = some (.map (some mb)) ∧ (Instr.lookup 62 (.map (some mb)) (.string s) false).run Try.prog W = .ok (.pointer (some ⟨fb, 0, none⟩)) W) := Lib.hid fun W hB => by
    refine ⟨(hc.disk.below hB).cells.1.1, ?_⟩
    have := (hm.at (W' := W) (hB.block _ hmbl)).look Try.underlying9 Try.underlying62 (zero_ptr _) hs
    rwa [hF] at this
  have CC : Hid (∀ W, Calls Try.prog 49 #[.agg #[.bool (D.now s).isSome, v.now (szO (D.now s))], .int .i64 (k : Nat)] W (CutOut W v.na k)) := Lib.hid fun W => cut_calls _ v.na (szO (D.now s)) v.nc k b1 b2 (by omega) (by simp only [maxLen] at b4; omega) W
  -- the file's cells, and what note makes of it
  have HN : Hid (∀ W, Below w.heap.size w W → (W.frozen? ⟨fb, 0, none⟩ = false ∧ W.frozen? ⟨fb, 1, none⟩ = false ∧ (∃ q, W.cell? ⟨fb, 0, none⟩ = some q) ∧ (∃ q, W.cell? ⟨fb, 1, none⟩ = some q)) ∧
      Hid (Calls Try.prog 48 #[.pointer (some ⟨db, 0, none⟩), .pointer (some ⟨fb, 0, none⟩), .agg #[.int .i64 0, .int .i64 1, .int .i64 (k : Nat), .string ⟨#[]⟩]] (setNow W fb true (.slice v.na k k)) fun e W4 => e = .returned (.tuple #[]) ∧
        (∀ j, w.heap.size ≤ j → j < W.heap.size → W4.heap[j]? = W.heap[j]?) ∧ W.heap.size ≤ W4.heap.size ∧
        Hid (∀ W5, Below W4.heap.size W4 W5 → (W5.cell? ⟨db, 2, none⟩ = some (.int .i64 (D.used : Int)) ∧ W5.frozen? ⟨db, 2, none⟩ = false) ∧
          Hid (∃ O', DiskAt (W5.setCell ⟨db, 2, none⟩ (.int .i64 ((D.used - (szO (D.now s) - k) : Nat) : Int))) O' db (D.cutD s k) ∧ Past w O (W5.setCell ⟨db, 2, none⟩ (.int .i64 ((D.used - (szO (D.now s) - k) : Nat) : Int))) O')))) := Lib.hid fun W hB => by
    have hfb := v1.below hB
    refine ⟨⟨hfb.cells.2 0, hfb.cells.2 1, ⟨_, hfb.cells.1.1⟩, ⟨_, hfb.cells.1.2.1⟩⟩, Lib.hid ?_⟩
    have hdbf : db ≠ fb := fun e => by rw [← e, hc.odb] at v6; cases v6
    have hfl := v1.lt
    have hs1 := setNow_size W fb true (.slice v.na k k)
    have hBs := hB.size
    have hd0 : DB (setNow W fb true (.slice v.na k k)) db mb (D.room : Int) (D.used : Int) D.made D.fails := (setNow_other hdbf).trans (hc.disk.below hB)
    have hf0 : FB (setNow W fb true (.slice v.na k k)) fb true (.slice v.na k k) (D.safe s).isSome (v.safe (szO (D.safe s))) v.sh (v.chs (mine s D.chs).length) := setNow_file hfb
    have hap := filev_apart hv
    have hC0 : OwnC (setNow W fb true (.slice v.na k k)) (db + 1) (v.chs (mine s D.chs).length) (mine s D.chs) := v5.keep fun g hg => (setNow_other (hap g hg)).trans (hB.block g (v5.own g hg).2)
    have hml := hw.mineLe s
    refine (note_calls db mb fb (D.room : Int) (D.used : Int) D.made (by omega) D.fails true (D.safe s).isSome v.sh v.na v.sa v.ca k k (szO (D.safe s)) v.sc (mine s D.chs).length v.cc (mine s D.chs) ⟨0, 1, k, ⟨#[]⟩⟩ (db + 1) (setNow W fb true (.slice v.na k k)) hd0 hf0 hdbf hC0 (by omega) (Nat.lt_succ_self _) hap (by omega)).mono ?_
    rintro e W4 ⟨rfl, hN⟩
    obtain ⟨cv', y1, y2, y3, y4, y5, y6, y7, y8, y9⟩ := id hN
    rw [hs1] at y8 y9
    refine ⟨rfl, fun j h1 h2 => ?_, y8, Lib.hid fun W5 hB5 => ?_⟩
    · have h3 : (v.chs (mine s D.chs).length).ownBlock ≠ some j := fun e => by have := (v5.own j e).2; omega
      rw [y9 j h2 (by omega) (by omega) h3, setNow_other (by omega)]
    · have hN5 : Noted (setNow W fb true (.slice v.na k k)) db mb fb (D.room : Int) (D.used : Int) D.made D.fails true (D.safe s).isSome v.sh (.slice v.na k k) (v.safe (szO (D.safe s))) (v.chs (mine s D.chs).length) (mine s D.chs) ⟨0, 1, k, ⟨#[]⟩⟩ (db + 1) W5 := by
        refine ⟨cv', y1.below hB5, y2.below hB5, y3.keep (fun g hg => hB5.block g (y3.own g hg).2), y4, y5.trans hB5.os.symm, y6.trans hB5.tape.symm, y7.trans hB5.output.symm, by rw [hs1]; have := hB5.size; omega, fun j h1 h2 h3 h4 => ?_⟩
        rw [hs1] at h1
        rw [hB5.block j (by omega), y9 j h1 h2 h3 h4]
      have hd5 := y1.below hB5
      refine ⟨⟨hd5.cells.1.2.2.1, hd5.cells.2 2⟩, Lib.hid ?_⟩
      rw [cutD_chg D s k hk]
      have hk2 : szO (some (((D.now s).getD []).take k)) = k := by
        show (List.take _ _).length = k
        rw [List.length_take, szO_getD]; omega
      have hsh : Share v.sh (.slice v.na k k) (v.safe (szO (D.safe s))) (szO (some (((D.now s).getD []).take k))) (szO (D.safe s)) := fun g h1 h2 => by
        obtain ⟨h3, _⟩ := v4 g (by rw [own_any v.na _ _ k k]; exact h1) h2
        exact ⟨h3, .inr ⟨_, _, rfl⟩⟩
      have := chg_done (o := some (((D.now s).getD []).take k)) (nv' := .slice v.na k k) (kind := 1) (pos := k) hc hf hB hF hv hcut (fun g hg => by rw [own_any v.na _ _ k k]; exact hg) hsh hN5
      rwa [hk2] at this
  obtain ⟨ns, hns⟩ : ∃ ns, szO (D.now s) = ns := ⟨_, rfl⟩
  obtain ⟨u, hu⟩ : ∃ u, D.used = u := ⟨_, rfl⟩
  rw [hns] at CK CC hsz hge HN hk
  rw [hu] at HN hu2 hge
  rw [hnow] at CK CC
  obtain ⟨sh, na, nc, sa, sc, ca, cc⟩ := v
  obtain ⟨st, hst⟩ : ∃ st, (D.safe s).isSome = st := ⟨_, rfl⟩
  obtain ⟨sl, hsl⟩ : ∃ sl, szO (D.safe s) = sl := ⟨_, rfl⟩
  obtain ⟨cl, hcl⟩ : ∃ cl, (mine s D.chs).length = cl := ⟨_, rfl⟩
  rw [hst, hsl, hcl] at CK
  simp only [KV.now, KV.safe, KV.chs] at CK CC HN
  have q0 := field_now true st sh na sa ca ns nc sl sc cl cc
  obtain ⟨m, hm2⟩ : ∃ m, ns - k = m := ⟨_, rfl⟩
  rw [hm2] at HN
  have e1 : ((ns : Int) - (k : Int)) = (m : Int) := by omega
  have e2 : ((u : Int) - (m : Int)) = ((u - m : Nat) : Int) := by omega
  have hkI : ¬ (ns : Int) < (k : Int) := by omega
  clear v1 v2 v3 v4 v5 v6 v7 b1 b2 b3 b4 hcut hv hfile hF hm hn hf hc h hw hs hright hr hin hmbl hdb hns hu hst hsl hcl hus hnow hmade hm2
  go_enter Try.func24, Try.ntmps24
  go_wp2_with fail
  refine CR.out.mono ?_
  rintro e W ⟨rfl, hB⟩
  go_wp2_with fail
  refine (CK.out W hB).mono ?_
  rintro e W2 ⟨rfl, hB2⟩
  have hBB := hB.trans (hB2.mono hB.size)
  have hB3 : Below w.heap.size w (W2.alloc (.cells #[.bool true, .slice na ns nc] 75)) := hBB.alloc hBB.size _
  have HB3 := Lib.hid hB3
  obtain ⟨x0, _⟩ := HX.out _ hB3
  clear hB hB2 CK CR
  go_wp2_with (first | (refine wpList_lookup_ran (o := ⟨some 34, _, _, _, _, _⟩) rfl _ _ _ _ rfl rfl rfl (HX.out _ HB3.out).2 ?_))
  refine (CC.out _).mono ?_
  rintro e W3 ⟨rfl, hB4⟩
  have hB5 := HB3.out.trans (hB4.mono HB3.out.size)
  obtain ⟨⟨z0, z1, ⟨_, f0⟩, ⟨_, f1⟩⟩, HNN⟩ := HN.out W3 hB5
  have hbx : W3.heap[W2.heap.size]? = some (.cells #[.bool true, .slice na ns nc] 75 (0, 0)) := (hB4.block _ (by simp)).trans (heap_alloc_new W2 _)
  have HBX := Lib.hid hbx
  have hlt : W2.heap.size < W3.heap.size := (Array.getElem?_eq_some_iff.1 hbx).1
  have hw2 : w.heap.size ≤ W2.heap.size := hBB.size
  clear CC hB4 hB5 HN HB3 hB3 x0 hbx
  go_wp2_with fail
  change Calls _ _ _ (setNow W3 fb true (.slice na k k)) _
  refine HNN.out.mono ?_
  rintro e W4 ⟨rfl, hsame, hsz4, HF⟩
  have hbx4 : W4.heap[W2.heap.size]? = some (.cells #[.bool true, .slice na ns nc] 75 (0, 0)) := (hsame _ hw2 hlt).trans HBX.out
  have b1 : W4.cell? ⟨W2.heap.size, 1, none⟩ = some (.slice na ns nc) := by simp [World.cell?, hbx4]
  have B1 := cell_regrown b1
  obtain ⟨⟨d2, _⟩, _⟩ := HF.out W4 (Below.refl _ _)
  have D2 := cell_regrown d2
  clear hsame hbx4 HNN HBX b1 d2
  go_wp2_with fail
  refine wp_region_quiet_tail (C := fun w' => ∃ p : Regrown, w' = grow (redrawn W4 p.d) p.os) 10 (by kernel_rfl) (by kernel_rfl) ⟨⟨W4.drawn + 1, #[]⟩, by rw [grow_empty]; rfl⟩ ?_
  simp only [List.take_succ_cons, List.take_zero, List.drop_succ_cons, List.drop_zero]
  repeat (go_big_quiet_step (fail))
  refine wpQuiet_nil ?_
  intro wq hq
  obtain ⟨⟨dq, osq⟩, rfl⟩ := hq
  obtain ⟨⟨d2, dz⟩, HFIN⟩ := HF.out _ (below_regrown W4 dq osq)
  clear HF D2 B1
  generalize grow (redrawn W4 dq) osq = wq at d2 dz HFIN ⊢
  go_wp2_with fail
  go_ret
  exact ⟨rfl, HFIN.out⟩

set_option maxRecDepth 100000 in
set_option maxHeartbeats 4000000 in
theorem remove_ok (w : World) (O : Owner) (db : Nat) (D : DS) (h : DiskAt w O db D) (hw : WF D) (hmade : D.made ≤ 4294967296) (s : ByteArray) (hr : refN D.fails s 0 = 0) (hnow : (D.now s).isSome = true) :
    Calls Try.prog 25 #[.pointer (some ⟨db, 0, none⟩), .string s] w fun e W => e = .returned (.int .i64 0) ∧ ∃ O', DiskAt W O' db (D.removeD s) ∧ Past w O W O' := by
  obtain ⟨_, hright, _⟩ := refN_zero hr
  have hs := short_right hright
  obtain ⟨mb, F, hc, hf⟩ := id h
  have hin : s ∈ D.names := (hw.names s).2 (.inl fun e => by rw [e] at hnow; cases hnow)
  obtain ⟨fb, hF, hfile⟩ := hf s hin
  obtain ⟨v, hv⟩ := hfile.vals
  obtain ⟨n, hn, hm⟩ := hc.map
  have hdb := hc.disk.lt
  have hmbl : mb < w.heap.size := hc.lt mb (by rw [hc.omb]; simp)
  have CR := Lib.hid (refusal_calls db mb _ _ _ _ s (by unfold Short at hs; simp only [maxLen] at hs; omega) 0 w hc.disk)
  rw [hr] at CR
  have hsz := hw.nowLe s
  have hus := hw.usedLe
  have hu2 : D.used ≤ 4611686018427387904 := Nat.le_trans hus (Nat.le_trans (Nat.mul_le_mul_right _ hmade) (by decide))
  have hge : szO (D.now s) ≤ D.used := by rw [hw.used]; exact total_ge _ _ _ hin
  obtain ⟨v1, v2, v3, v4, v5, v6, v7⟩ := id hv
  have CK : Hid (∀ W, Below w.heap.size w W → Calls Try.prog 40 #[.pointer (some ⟨db, 0, none⟩), .string s] W (KnownOut W (.agg #[.bool (D.now s).isSome, v.now (szO (D.now s)), .bool (D.safe s).isSome, v.safe (szO (D.safe s)), .bool v.sh, v.chs (mine s D.chs).length]))) := Lib.hid fun W hB =>
    known_some db mb _ _ _ _ n F s hs W (hc.disk.below hB) (hm.at (hB.block mb hmbl)) fb hF _ _ _ _ _ _ _ _ _ _ _ _ (v1.below hB)
  have HX : Hid (∀ W, Below w.heap.size w W → W.cell? ⟨db, 0, none⟩ = some (.map (some mb)) ∧ (Instr.lookup 62 (.map (some mb)) (.string s) false).run Try.prog W = .ok (.pointer (some ⟨fb, 0, none⟩)) W) := Lib.hid fun W hB => by
    refine ⟨(hc.disk.below hB).cells.1.1, ?_⟩
    have := (hm.at (W' := W) (hB.block _ hmbl)).look Try.underlying9 Try.underlying62 (zero_ptr _) hs
    rwa [hF] at this
  -- the file's cells, and what note makes of it
  have HN : Hid (∀ W, Below w.heap.size w W → (W.frozen? ⟨fb, 0, none⟩ = false ∧ W.frozen? ⟨fb, 1, none⟩ = false ∧ (∃ q, W.cell? ⟨fb, 0, none⟩ = some q) ∧ (∃ q, W.cell? ⟨fb, 1, none⟩ = some q)) ∧
      Hid (Calls Try.prog 48 #[.pointer (some ⟨db, 0, none⟩), .pointer (some ⟨fb, 0, none⟩), .agg #[.int .i64 0, .int .i64 2, .int .i64 0, .string ⟨#[]⟩]] (setNow W fb false (.slice none 0 0)) fun e W4 => e = .returned (.tuple #[]) ∧
        (∀ j, w.heap.size ≤ j → j < W.heap.size → W4.heap[j]? = W.heap[j]?) ∧ W.heap.size ≤ W4.heap.size ∧
        Hid (∀ W5, Below W4.heap.size W4 W5 → (W5.cell? ⟨db, 2, none⟩ = some (.int .i64 (D.used : Int)) ∧ W5.frozen? ⟨db, 2, none⟩ = false) ∧
          Hid (∃ O', DiskAt (W5.setCell ⟨db, 2, none⟩ (.int .i64 ((D.used - szO (D.now s) : Nat) : Int))) O' db (D.removeD s) ∧ Past w O (W5.setCell ⟨db, 2, none⟩ (.int .i64 ((D.used - szO (D.now s) : Nat) : Int))) O')))) := Lib.hid fun W hB => by
    have hfb := v1.below hB
    refine ⟨⟨hfb.cells.2 0, hfb.cells.2 1, ⟨_, hfb.cells.1.1⟩, ⟨_, hfb.cells.1.2.1⟩⟩, Lib.hid ?_⟩
    have hdbf : db ≠ fb := fun e => by rw [← e, hc.odb] at v6; cases v6
    have hfl := v1.lt
    have hs1 := setNow_size W fb false (.slice none 0 0)
    have hBs := hB.size
    have hd0 : DB (setNow W fb false (.slice none 0 0)) db mb (D.room : Int) (D.used : Int) D.made D.fails := (setNow_other hdbf).trans (hc.disk.below hB)
    have hf0 : FB (setNow W fb false (.slice none 0 0)) fb false (.slice none 0 0) (D.safe s).isSome (v.safe (szO (D.safe s))) v.sh (v.chs (mine s D.chs).length) := setNow_file hfb
    have hap := filev_apart hv
    have hC0 : OwnC (setNow W fb false (.slice none 0 0)) (db + 1) (v.chs (mine s D.chs).length) (mine s D.chs) := v5.keep fun g hg => (setNow_other (hap g hg)).trans (hB.block g (v5.own g hg).2)
    have hml := hw.mineLe s
    refine (note_calls db mb fb (D.room : Int) (D.used : Int) D.made (by omega) D.fails false (D.safe s).isSome v.sh none v.sa v.ca 0 0 (szO (D.safe s)) v.sc (mine s D.chs).length v.cc (mine s D.chs) ⟨0, 2, 0, ⟨#[]⟩⟩ (db + 1) (setNow W fb false (.slice none 0 0)) hd0 hf0 hdbf hC0 (by omega) (Nat.lt_succ_self _) hap (by omega)).mono ?_
    rintro e W4 ⟨rfl, hN⟩
    obtain ⟨cv', y1, y2, y3, y4, y5, y6, y7, y8, y9⟩ := id hN
    rw [hs1] at y8 y9
    refine ⟨rfl, fun j h1 h2 => ?_, y8, Lib.hid fun W5 hB5 => ?_⟩
    · have h3 : (v.chs (mine s D.chs).length).ownBlock ≠ some j := fun e => by have := (v5.own j e).2; omega
      rw [y9 j h2 (by omega) (by omega) h3, setNow_other (by omega)]
    · have hN5 : Noted (setNow W fb false (.slice none 0 0)) db mb fb (D.room : Int) (D.used : Int) D.made D.fails false (D.safe s).isSome v.sh (.slice none 0 0) (v.safe (szO (D.safe s))) (v.chs (mine s D.chs).length) (mine s D.chs) ⟨0, 2, 0, ⟨#[]⟩⟩ (db + 1) W5 := by
        refine ⟨cv', y1.below hB5, y2.below hB5, y3.keep (fun g hg => hB5.block g (y3.own g hg).2), y4, y5.trans hB5.os.symm, y6.trans hB5.tape.symm, y7.trans hB5.output.symm, by rw [hs1]; have := hB5.size; omega, fun j h1 h2 h3 h4 => ?_⟩
        rw [hs1] at h1
        rw [hB5.block j (by omega), y9 j h1 h2 h3 h4]
      have hd5 := y1.below hB5
      refine ⟨⟨hd5.cells.1.2.2.1, hd5.cells.2 2⟩, Lib.hid ?_⟩
      rw [removeD_chg D s]
      have := chg_done (o := none) (nv' := .slice none 0 0) (kind := 2) (pos := 0) hc hf hB hF hv (Buf.nil _ _ _) (fun g hg => by cases hg) (fun g h1 _ => by cases h1) hN5
      exact this
  obtain ⟨ns, hns⟩ : ∃ ns, szO (D.now s) = ns := ⟨_, rfl⟩
  obtain ⟨u, hu⟩ : ∃ u, D.used = u := ⟨_, rfl⟩
  rw [hns] at CK hsz hge HN
  rw [hu] at HN hu2 hge
  rw [hnow] at CK
  obtain ⟨sh, na, nc, sa, sc, ca, cc⟩ := v
  obtain ⟨st, hst⟩ : ∃ st, (D.safe s).isSome = st := ⟨_, rfl⟩
  obtain ⟨sl, hsl⟩ : ∃ sl, szO (D.safe s) = sl := ⟨_, rfl⟩
  obtain ⟨cl, hcl⟩ : ∃ cl, (mine s D.chs).length = cl := ⟨_, rfl⟩
  rw [hst, hsl, hcl] at CK
  simp only [KV.now, KV.safe, KV.chs] at CK HN
  have q0 := field_now true st sh na sa ca ns nc sl sc cl cc
  have e2 : ((u : Int) - (ns : Int)) = ((u - ns : Nat) : Int) := by omega
  clear v1 v2 v3 v4 v5 v6 v7 hv hfile hF hm hn hf hc h hw hs hright hr hin hmbl hdb hns hu hst hsl hcl hus hnow hmade
  go_enter Try.func25, Try.ntmps25
  go_wp2_with fail
  refine CR.out.mono ?_
  rintro e W ⟨rfl, hB⟩
  go_wp2_with fail
  refine (CK.out W hB).mono ?_
  rintro e W2 ⟨rfl, hB2⟩
  have hBB := hB.trans (hB2.mono hB.size)
  have hB3 : Below w.heap.size w (W2.alloc (.cells #[.bool true, .slice na ns nc] 75)) := hBB.alloc hBB.size _
  have HB3 := Lib.hid hB3
  obtain ⟨x0, _⟩ := HX.out _ hB3
  obtain ⟨⟨z0, z1, ⟨_, f0⟩, ⟨_, f1⟩⟩, HNN⟩ := HN.out _ hB3
  have hw2 : w.heap.size ≤ W2.heap.size := hBB.size
  clear hB hB2 CK CR HN hB3
  go_wp2_with (first | (refine wpList_lookup_ran (o := ⟨some 26, _, _, _, _, _⟩) rfl _ _ _ _ rfl rfl rfl (HX.out _ HB3.out).2 ?_))
  change Calls _ _ _ (setNow (W2.alloc (.cells #[.bool true, .slice na ns nc] 75)) fb false (.slice none 0 0)) _
  refine HNN.out.mono ?_
  rintro e W4 ⟨rfl, hsame, hsz4, HF⟩
  have hbx4 : W4.heap[W2.heap.size]? = some (.cells #[.bool true, .slice na ns nc] 75 (0, 0)) := (hsame _ hw2 (by simp)).trans (heap_alloc_new W2 _)
  have b1 : W4.cell? ⟨W2.heap.size, 1, none⟩ = some (.slice na ns nc) := by simp [World.cell?, hbx4]
  have B1 := cell_regrown b1
  obtain ⟨⟨d2, _⟩, _⟩ := HF.out W4 (Below.refl _ _)
  have D2 := cell_regrown d2
  clear hsame hbx4 HNN b1 d2
  go_wp2_with fail
  refine wp_region_quiet_tail (C := fun w' => ∃ p : Regrown, w' = grow (redrawn W4 p.d) p.os) 8 (by kernel_rfl) (by kernel_rfl) ⟨⟨W4.drawn + 1, #[]⟩, by rw [grow_empty]; rfl⟩ ?_
  simp only [List.take_succ_cons, List.take_zero, List.drop_succ_cons, List.drop_zero]
  repeat (go_big_quiet_step (fail))
  refine wpQuiet_nil ?_
  intro wq hq
  obtain ⟨⟨dq, osq⟩, rfl⟩ := hq
  obtain ⟨⟨d2, dz⟩, HFIN⟩ := HF.out _ (below_regrown W4 dq osq)
  clear HF D2 B1
  generalize grow (redrawn W4 dq) osq = wq at d2 dz HFIN ⊢
  go_wp2_with fail
  go_ret
  exact ⟨rfl, HFIN.out⟩


set_option maxRecDepth 100000 in
set_option maxHeartbeats 4000000 in
theorem cut_err (w : World) (O : Owner) (db : Nat) (D : DS) (h : DiskAt w O db D) (hw : WF D) (s : ByteArray) (hs63 : s.size ≤ 9223372036854775807) (k : Int) (hk63 : k ≤ 9223372036854775807) (h0 : D.cutN s k ≠ 0) :
    Calls Try.prog 24 #[.pointer (some ⟨db, 0, none⟩), .string s, .int .i64 k] w (ErrD w (D.cutN s k)) := by
  obtain ⟨n, hn⟩ : ∃ n, D.cutN s k = n := ⟨_, rfl⟩
  rw [hn] at h0 ⊢
  obtain ⟨mb, hdb⟩ := h.db
  have CR := Lib.hid (refusal_calls db mb _ _ _ _ s hs63 k w hdb)
  by_cases hr : refN D.fails s k = 0
  · obtain ⟨_, hright, hk0⟩ := refN_zero hr
    rw [hr] at CR
    have CK : Hid (∀ W, Below w.heap.size w W → ∃ (na sa ca : Option Addr) (nc sl sc cl cc : Nat) (st sh : Bool), Calls Try.prog 40 #[.pointer (some ⟨db, 0, none⟩), .string s] W (KnownOut W (.agg #[.bool (D.now s).isSome, .slice na (szO (D.now s)) nc, .bool st, .slice sa sl sc, .bool sh, .slice ca cl cc]))) := Lib.hid fun W hB => by
      obtain ⟨v, ns, sl, cl, nt, st, ⟨rfl, rfl, _, _⟩, _, _, hc⟩ := known_at (h.below hB) hw s (short_right hright)
      exact ⟨v.na, v.sa, v.ca, v.nc, sl, v.sc, cl, v.cc, st, v.sh, hc⟩
    have hsz := hw.nowLe s
    obtain ⟨kN, rfl⟩ : ∃ kN : Nat, k = (kN : Nat) := ⟨k.toNat, by omega⟩
    cases hq : D.now s with
    | none =>
      have : n = 7 := by
        rw [← hn]; unfold DS.cutN
        rw [if_neg (by rw [hr]; simp), if_pos hq]
      subst this
      rw [hq] at CK
      obtain ⟨ns, hns⟩ : ∃ ns, szO (none : Option (List Nat)) = ns := ⟨_, rfl⟩
      obtain ⟨nt, hnt⟩ : ∃ nt, (none : Option (List Nat)).isSome = nt := ⟨_, rfl⟩
      rw [hns, hnt] at CK
      have hnt2 : nt = false := hnt.symm
      subst hnt2
      clear hn hr hdb h hw h0 hsz hq hns hnt
      go_enter Try.func24, Try.ntmps24
      go_wp2_with fail
      refine CR.out.mono ?_
      rintro e W ⟨rfl, hB⟩
      go_wp2_with fail
      obtain ⟨na, sa, ca, nc, sl, sc, cl, cc, st, sh, cK⟩ := CK.out W hB
      have CKK := Lib.hid cK
      clear cK
      refine CKK.out.mono ?_
      rintro e W2 ⟨rfl, hB2⟩
      have q0 := field_now false st sh na sa ca ns nc sl sc cl cc
      have HBB := Lib.hid ((hB.trans (hB2.mono hB.size)).alloc (Nat.le_trans hB.size hB2.size) (.cells #[.bool false, .slice na ns nc] 75))
      clear hB hB2 CKK CK
      go_wp2_with fail
      go_ret
      exact ⟨rfl, HBB.out⟩
    | some bs =>
      have h8 : szO (D.now s) < kN ∧ n = 8 := by
        unfold DS.cutN at hn
        rw [if_neg (by rw [hr]; simp), if_neg (by rw [hq]; simp)] at hn
        by_cases hx : (szO (D.now s) : Int) < (kN : Nat)
        · rw [if_pos hx] at hn; exact ⟨by omega, hn.symm⟩
        · rw [if_neg hx] at hn; exact absurd hn.symm h0
      obtain ⟨h9, rfl⟩ := h8
      rw [hq] at CK h9
      obtain ⟨ns, hns⟩ : ∃ ns, szO (some bs) = ns := ⟨_, rfl⟩
      obtain ⟨nt, hnt⟩ : ∃ nt, (some bs : Option (List Nat)).isSome = nt := ⟨_, rfl⟩
      rw [hns, hnt] at CK
      rw [hns] at h9
      have hnt2 : nt = true := hnt.symm
      subst hnt2
      have h9I : (ns : Int) < (kN : Int) := by omega
      clear hn hr hdb h hw h0 hsz hq hns hnt
      go_enter Try.func24, Try.ntmps24
      go_wp2_with fail
      refine CR.out.mono ?_
      rintro e W ⟨rfl, hB⟩
      go_wp2_with fail
      obtain ⟨na, sa, ca, nc, sl, sc, cl, cc, st, sh, cK⟩ := CK.out W hB
      have CKK := Lib.hid cK
      clear cK
      refine CKK.out.mono ?_
      rintro e W2 ⟨rfl, hB2⟩
      have q0 := field_now true st sh na sa ca ns nc sl sc cl cc
      have HBB := Lib.hid ((hB.trans (hB2.mono hB.size)).alloc (Nat.le_trans hB.size hB2.size) (.cells #[.bool true, .slice na ns nc] 75))
      clear hB hB2 CKK CK
      go_wp2_with fail
      go_ret
      exact ⟨rfl, HBB.out⟩
  · have : n = refN D.fails s k := by
      rw [← hn]; unfold DS.cutN
      rw [if_pos hr]
    rw [← this] at CR
    have hnI : ((n : Int) != 0) = true := by rw [bne_iff_ne]; omega
    clear this hn hr hdb h hw
    go_enter Try.func24, Try.ntmps24
    go_wp2_with fail
    refine CR.out.mono ?_
    rintro e W ⟨rfl, hB⟩
    go_wp2_with fail
    go_ret
    exact ⟨rfl, hB⟩

set_option maxRecDepth 100000 in
set_option maxHeartbeats 4000000 in
theorem remove_err (w : World) (O : Owner) (db : Nat) (D : DS) (h : DiskAt w O db D) (hw : WF D) (s : ByteArray) (hs63 : s.size ≤ 9223372036854775807) (h0 : D.removeN s ≠ 0) :
    Calls Try.prog 25 #[.pointer (some ⟨db, 0, none⟩), .string s] w (ErrD w (D.removeN s)) := by
  obtain ⟨n, hn⟩ : ∃ n, D.removeN s = n := ⟨_, rfl⟩
  rw [hn] at h0 ⊢
  obtain ⟨mb, hdb⟩ := h.db
  have CR := Lib.hid (refusal_calls db mb _ _ _ _ s hs63 0 w hdb)
  by_cases hr : refN D.fails s 0 = 0
  · obtain ⟨_, hright, hk0⟩ := refN_zero hr
    rw [hr] at CR
    have CK : Hid (∀ W, Below w.heap.size w W → ∃ (na sa ca : Option Addr) (nc sl sc cl cc : Nat) (st sh : Bool), Calls Try.prog 40 #[.pointer (some ⟨db, 0, none⟩), .string s] W (KnownOut W (.agg #[.bool (D.now s).isSome, .slice na (szO (D.now s)) nc, .bool st, .slice sa sl sc, .bool sh, .slice ca cl cc]))) := Lib.hid fun W hB => by
      obtain ⟨v, ns, sl, cl, nt, st, ⟨rfl, rfl, _, _⟩, _, _, hc⟩ := known_at (h.below hB) hw s (short_right hright)
      exact ⟨v.na, v.sa, v.ca, v.nc, sl, v.sc, cl, v.cc, st, v.sh, hc⟩
    have hq : D.now s = none := by
      unfold DS.removeN at hn
      rw [if_neg (by rw [hr]; simp)] at hn
      by_cases hx : D.now s = none
      · exact hx
      · rw [if_neg hx] at hn; exact absurd hn.symm h0
    have : n = 7 := by
      rw [← hn]; unfold DS.removeN
      rw [if_neg (by rw [hr]; simp), if_pos hq]
    subst this
    rw [hq] at CK
    obtain ⟨ns, hns⟩ : ∃ ns, szO (none : Option (List Nat)) = ns := ⟨_, rfl⟩
    obtain ⟨nt, hnt⟩ : ∃ nt, (none : Option (List Nat)).isSome = nt := ⟨_, rfl⟩
    rw [hns, hnt] at CK
    have hnt2 : nt = false := hnt.symm
    subst hnt2
    clear hn hr hdb h hw h0 hq hns hnt
    go_enter Try.func25, Try.ntmps25
    go_wp2_with fail
    refine CR.out.mono ?_
    rintro e W ⟨rfl, hB⟩
    go_wp2_with fail
    obtain ⟨na, sa, ca, nc, sl, sc, cl, cc, st, sh, cK⟩ := CK.out W hB
    have CKK := Lib.hid cK
    clear cK
    refine CKK.out.mono ?_
    rintro e W2 ⟨rfl, hB2⟩
    have q0 := field_now false st sh na sa ca ns nc sl sc cl cc
    have HBB := Lib.hid ((hB.trans (hB2.mono hB.size)).alloc (Nat.le_trans hB.size hB2.size) (.cells #[.bool false, .slice na ns nc] 75))
    clear hB hB2 CKK CK
    go_wp2_with fail
    go_ret
    exact ⟨rfl, HBB.out⟩
  · have : n = refN D.fails s 0 := by
      rw [← hn]; unfold DS.removeN
      rw [if_pos hr]
    rw [← this] at CR
    have hnI : ((n : Int) != 0) = true := by rw [bne_iff_ne]; omega
    clear this hn hr hdb h hw
    go_enter Try.func25, Try.ntmps25
    go_wp2_with fail
    refine CR.out.mono ?_
    rintro e W ⟨rfl, hB⟩
    go_wp2_with fail
    go_ret
    exact ⟨rfl, hB⟩

/-- Cut. -/
theorem cutD_calls (w : World) (O : Owner) (db : Nat) (D : DS) (h : DiskAt w O db D) (hw : WF D) (hmade : D.made ≤ 4294967296) (s : ByteArray) (hs63 : s.size ≤ 9223372036854775807) (k : Int) (hk63 : k ≤ 9223372036854775807) :
    Calls Try.prog 24 #[.pointer (some ⟨db, 0, none⟩), .string s, .int .i64 k] w (CutDone w O db D s k) := by
  unfold CutDone
  by_cases h0 : D.cutN s k = 0
  · have hr : refN D.fails s k = 0 := by
      unfold DS.cutN at h0
      by_cases hx : refN D.fails s k = 0
      · exact hx
      · rw [if_pos hx] at h0; exact absurd h0 hx
    obtain ⟨_, _, hk0⟩ := refN_zero hr
    obtain ⟨kN, rfl⟩ : ∃ kN : Nat, k = (kN : Nat) := ⟨k.toNat, by omega⟩
    have h1 : (D.now s).isSome = true ∧ kN ≤ szO (D.now s) := by
      unfold DS.cutN at h0
      rw [if_neg (by rw [hr]; simp)] at h0
      by_cases hq : D.now s = none
      · rw [if_pos hq] at h0; cases h0
      · rw [if_neg hq] at h0
        by_cases hx : (szO (D.now s) : Int) < (kN : Nat)
        · rw [if_pos hx] at h0; cases h0
        · refine ⟨?_, by omega⟩
          cases hq2 : D.now s with
          | none => exact absurd hq2 hq
          | some b => rfl
    have : D.cut s (kN : Nat) = D.cutD s kN := by unfold DS.cut; rw [if_pos h0]; rfl
    rw [h0, this]
    exact cut_ok w O db D h hw hmade s kN hr h1.1 h1.2
  · have : D.cut s k = D := by unfold DS.cut; rw [if_neg h0]
    rw [this]
    refine (cut_err w O db D h hw s hs63 k hk63 h0).mono ?_
    rintro e W ⟨rfl, hB⟩
    exact ⟨rfl, O, h.below hB, Past.of_below O hB⟩
/-- Remove. -/
theorem removeD_calls (w : World) (O : Owner) (db : Nat) (D : DS) (h : DiskAt w O db D) (hw : WF D) (hmade : D.made ≤ 4294967296) (s : ByteArray) (hs63 : s.size ≤ 9223372036854775807) :
    Calls Try.prog 25 #[.pointer (some ⟨db, 0, none⟩), .string s] w fun e W => e = .returned (.int .i64 (D.removeN s : Nat)) ∧ ∃ O', DiskAt W O' db (D.remove s) ∧ Past w O W O' := by
  by_cases h0 : D.removeN s = 0
  · have hr : refN D.fails s 0 = 0 := by
      unfold DS.removeN at h0
      by_cases hx : refN D.fails s 0 = 0
      · exact hx
      · rw [if_pos hx] at h0; exact absurd h0 hx
    have h1 : (D.now s).isSome = true := by
      unfold DS.removeN at h0
      rw [if_neg (by rw [hr]; simp)] at h0
      cases hq2 : D.now s with
      | none => rw [hq2] at h0; simp at h0
      | some b => rfl
    have : D.remove s = D.removeD s := by unfold DS.remove; rw [if_pos h0]
    rw [h0, this]
    exact remove_ok w O db D h hw hmade s hr h1
  · have : D.remove s = D := by unfold DS.remove; rw [if_neg h0]
    rw [this]
    refine (remove_err w O db D h hw s hs63 h0).mono ?_
    rintro e W ⟨rfl, hB⟩
    exact ⟨rfl, O, h.below hB, Past.of_below O hB⟩
theorem WF.cut {D : DS} (h : WF D) (s : ByteArray) (k : Int) : WF (D.cut s k) := by
  unfold DS.cut
  by_cases h0 : D.cutN s k = 0
  · rw [if_pos h0]
    unfold DS.cutN at h0
    by_cases hx : refN D.fails s k = 0
    · rw [if_neg (by rw [hx]; simp)] at h0
      by_cases hq : D.now s = none
      · rw [if_pos hq] at h0; cases h0
      · rw [if_neg hq] at h0
        by_cases hy : (szO (D.now s) : Int) < k
        · rw [if_pos hy] at h0; cases h0
        · have hk : k.toNat ≤ szO (D.now s) := by omega
          have := h.nowLe s
          rw [cutD_chg D s k.toNat hk]
          exact h.chg ((h.names s).2 (.inl hq)) (by show (List.take _ _).length ≤ _; rw [List.length_take, szO_getD]; omega) (by omega) (by omega)
    · rw [if_pos hx] at h0; exact absurd h0 hx
  · rw [if_neg h0]; exact h
theorem WF.remove {D : DS} (h : WF D) (s : ByteArray) : WF (D.remove s) := by
  unfold DS.remove
  by_cases h0 : D.removeN s = 0
  · rw [if_pos h0]
    unfold DS.removeN at h0
    by_cases hx : refN D.fails s 0 = 0
    · rw [if_neg (by rw [hx]; simp)] at h0
      by_cases hq : D.now s = none
      · rw [if_pos hq] at h0; cases h0
      · exact h.chg (o := none) (kind := 2) (pos := 0) ((h.names s).2 (.inl hq)) (Nat.zero_le _) (by omega) (by omega)
    · rw [if_pos hx] at h0; exact absurd h0 hx
  · rw [if_neg h0]; exact h

end Go.Proofs.Ytmegiilkcidanaa.Disk

/-
  Contracts of the disk's Fail, Limit, Used.
-/
namespace Go.Proofs.Ytmegiilkcidanaa.Disk
open Go Go.RowKit Go.Sort Go.Lib Go.Proofs.Ytmegiilkcidanaa.Law

/-- A cell of the disk's own block is written. -/
theorem disk_set {w W : World} {O : Owner} {db i : Nat} {D D' : DS} (u : Value) (h : DiskAt w O db D) (hB : Below w.heap.size w W)
    (hd : ∀ mb, DB W db mb (D.room : Int) (D.used : Int) (D.made : Int) D.fails → DB (W.setCell ⟨db, i, none⟩ u) db mb (D'.room : Int) (D'.used : Int) (D'.made : Int) D'.fails)
    (h1 : D'.names = D.names) (h2 : D'.now = D.now) (h3 : D'.safe = D.safe) (h4 : D'.chs = D.chs) (h5 : D'.made = D.made) :
    DiskAt (W.setCell ⟨db, i, none⟩ u) O db D' ∧ Past w O (W.setCell ⟨db, i, none⟩ u) O := by
  obtain ⟨mb, F, hc, hf⟩ := h.below hB
  have hdb := hc.disk.lt
  have hdbm : db ≠ mb := fun e => by
    obtain ⟨n, _, hm⟩ := hc.map
    obtain ⟨a, c, h2⟩ := hm.isMap
    have h1 := hc.disk
    unfold DB at h1
    rw [e, h2] at h1
    cases h1
  have hset : ∀ k, k ≠ db → (W.setCell ⟨db, i, none⟩ u).heap[k]? = W.heap[k]? := fun k hk => Below.heap_setCell _ _ _ _ hk
  have hsz : (W.setCell ⟨db, i, none⟩ u).heap.size = W.heap.size := by simp [World.setCell]
  obtain ⟨_, _, hc0, _⟩ := h
  have hodb := hc.odb
  refine ⟨⟨mb, F, ⟨hd mb hc.disk, ?_, hc.odb, hc.omb, by rw [h1]; exact hc.dom, fun k hk => by rw [hsz]; exact hc.lt k hk⟩, fun s hs => ?_⟩, ⟨hB.os, hB.tape, hB.output, by rw [hsz]; exact hB.size, fun k hk ho => ?_, fun _ _ h => h⟩⟩
  · obtain ⟨n, hn, hm⟩ := hc.map
    exact ⟨n, by rw [h5]; exact hn, hm.at (hset mb (Ne.symm hdbm))⟩
  · rw [h1] at hs
    obtain ⟨fb, h6, h7⟩ := hf s hs
    rw [h2, h3, h4]
    exact ⟨fb, h6, h7.keep fun k _ ho => ⟨hset k (fun e => by rw [e, hodb] at ho; cases ho), ho⟩⟩
  · rw [hset k (fun e => by rw [e, hodb] at ho; cases ho), hB.block k hk]

def DS.fail (D : DS) (b : Bool) : DS := { D with fails := b }
def DS.limit (D : DS) (r : Int) : DS := if 0 ≤ r ∧ r ≤ 1073741824 then { D with room := r.toNat } else D
def limitN (r : Int) : Nat := if 0 ≤ r ∧ r ≤ 1073741824 then 0 else 1
theorem WF.fail {D : DS} (h : WF D) (b : Bool) : WF (D.fail b) := ⟨h.nodup, h.names, h.right, h.count, h.nowSz, h.safeSz, h.chSz, h.asc, h.below, h.kind, h.len, h.room, h.used⟩
theorem WF.limit {D : DS} (h : WF D) (r : Int) : WF (D.limit r) := by
  unfold DS.limit
  split
  · exact ⟨h.nodup, h.names, h.right, h.count, h.nowSz, h.safeSz, h.chSz, h.asc, h.below, h.kind, h.len, by show r.toNat ≤ _; omega, h.used⟩
  · exact h

set_option maxRecDepth 100000 in
set_option maxHeartbeats 2000000 in
theorem failD_calls (w : World) (O : Owner) (db : Nat) (D : DS) (h : DiskAt w O db D) (b : Bool) :
    Calls Try.prog 12 #[.pointer (some ⟨db, 0, none⟩), .bool b] w fun e W => e = .returned (.tuple #[]) ∧ DiskAt W O db (D.fail b) ∧ Past w O W O := by
  obtain ⟨mb, hd⟩ := h.db
  obtain ⟨⟨d0, d1, d2, d3, d4⟩, dz⟩ := hd.cells
  have dz4 := dz 4
  have HF := Lib.hid (disk_set (i := 4) (.bool b) (D' := D.fail b) h (Below.refl _ _) (fun mb hd => (block_set hd 4 _).trans (by simp [DS.fail])) rfl rfl rfl rfl rfl)
  clear h hd dz d0 d1 d2 d3
  go_enter Try.func12, Try.ntmps12
  go_wp2_with fail
  go_end0
  exact ⟨rfl, HF.out⟩

set_option maxRecDepth 100000 in
set_option maxHeartbeats 2000000 in
theorem limitD_calls (w : World) (O : Owner) (db : Nat) (D : DS) (h : DiskAt w O db D) (r : Int) :
    Calls Try.prog 26 #[.pointer (some ⟨db, 0, none⟩), .int .i64 r] w fun e W => e = .returned (.int .i64 (limitN r : Nat)) ∧ DiskAt W O db (D.limit r) ∧ Past w O W O := by
  obtain ⟨mb, hd⟩ := h.db
  obtain ⟨⟨d0, d1, d2, d3, d4⟩, dz⟩ := hd.cells
  have dz1 := dz 1
  have CR := Lib.hid (rightRoom_calls r w)
  by_cases hr : 0 ≤ r ∧ r ≤ 1073741824
  · have e1 : D.limit r = { D with room := r.toNat } := by unfold DS.limit; rw [if_pos hr]
    have e2 : limitN r = 0 := by unfold limitN; rw [if_pos hr]
    have e3 : ((r.toNat : Nat) : Int) = r := by omega
    rw [e1, e2]
    have HF := Lib.hid (disk_set (i := 1) (.int .i64 r) (D' := { D with room := r.toNat }) h (Below.refl _ _) (fun mb hd => (block_set hd 1 _).trans (by simp [e3])) rfl rfl rfl rfl rfl)
    rw [decide_eq_true hr] at CR
    clear h hd dz d0 d2 d3 d4 e1 e2 e3 hr
    go_enter Try.func26, Try.ntmps26
    go_wp2_with fail
    refine CR.out.mono ?_
    rintro e W ⟨rfl, rfl⟩
    go_wp2_with fail
    go_ret
    exact ⟨rfl, HF.out⟩
  · have e1 : D.limit r = D := by unfold DS.limit; rw [if_neg hr]
    have e2 : limitN r = 1 := by unfold limitN; rw [if_neg hr]
    rw [e1, e2]
    have HF : Hid (DiskAt w O db D ∧ Past w O w O) := Lib.hid ⟨h, Past.refl _ _⟩
    rw [decide_eq_false hr] at CR
    clear h hd dz d0 d1 d2 d3 d4 e1 e2 hr
    go_enter Try.func26, Try.ntmps26
    go_wp2_with fail
    refine CR.out.mono ?_
    rintro e W ⟨rfl, rfl⟩
    go_wp2_with fail
    go_ret
    exact ⟨rfl, HF.out⟩

set_option maxRecDepth 100000 in
theorem usedD_calls (w : World) (O : Owner) (db : Nat) (D : DS) (h : DiskAt w O db D) :
    Calls Try.prog 27 #[.pointer (some ⟨db, 0, none⟩)] w fun e W => e = .returned (.int .i64 (D.used : Nat)) ∧ W = w := by
  obtain ⟨mb, hd⟩ := h.db
  obtain ⟨⟨d0, d1, d2, d3, d4⟩, dz⟩ := hd.cells
  clear h hd dz d0 d1 d3 d4
  go_enter Try.func27, Try.ntmps27
  go_wp2_with fail
  go_ret
  exact ⟨rfl, rfl⟩

end Go.Proofs.Ytmegiilkcidanaa.Disk

/-
  What a step makes of a disk as data; a file that was synced stands.
-/
namespace Go.Proofs.Ytmegiilkcidanaa.Disk
open Go Go.RowKit Go.Lib Go.Proofs.Ytmegiilkcidanaa.Law

/-- What a step makes of the disk. -/
def Step.on (s : Step) (D : DS) : DS :=
  if s.kind = 0 then D.write s.name s.at' (str s.data) else if s.kind = 1 then D.cut s.name s.at' else if s.kind = 2 then D.remove s.name else if s.kind = 3 then D.sync s.name
  else if s.kind = 4 then D.crash s.picks else if s.kind = 5 then D.fail (decide (s.at' ≠ 0)) else if s.kind = 6 then D.limit s.at' else D

theorem Step.made_le (s : Step) (D : DS) : (s.on D).made ≤ D.made + 1 := by
  unfold Step.on
  split
  · unfold DS.write; split
    · exact Nat.le_refl _
    · omega
  split
  · unfold DS.cut; split
    · exact Nat.le_refl _
    · omega
  split
  · unfold DS.remove; split
    · exact Nat.le_refl _
    · omega
  split
  · unfold DS.sync; split
    · exact Nat.le_succ _
    · omega
  split
  · exact Nat.le_succ _
  split
  · exact Nat.le_succ _
  split
  · unfold DS.limit; split
    · exact Nat.le_succ _
    · omega
  · omega

/-- The file x is v, now and durably, and nothing is on its way. -/
structure Stands (x : ByteArray) (v : Option (List Nat)) (D : DS) : Prop where
  now : D.now x = v
  safe : D.safe x = v
  chs : mine x D.chs = []

theorem Stands.start {D : DS} {x : ByteArray} (h : D.syncN x = 0) : Stands x (D.now x) (D.sync x) := by
  have e : D.sync x = D.syncD x := by unfold DS.sync; rw [if_pos h]
  rw [e]
  exact ⟨rfl, upd_same _ _ _, mine_others_same x D.chs⟩

theorem Stands.crash {D : DS} {x : ByteArray} {v : Option (List Nat)} (h : Stands x v D) (picks : List Int) : Stands x v (D.crash picks) := by
  have e : D.crashSafe picks x = v := by
    unfold DS.crashSafe
    rw [crashTo_out (s := x), h.safe]
    intro y hy e
    have : y.2 ∈ mine x D.chs := mem_mine.2 (by rw [← e]; exact hy)
    rw [h.chs] at this
    cases this
  exact ⟨e, e, rfl⟩

theorem Stands.step {D : DS} {x : ByteArray} {v : Option (List Nat)} (h : Stands x v D) (s : Step) (hs : s.name ≠ x ∨ 3 < s.kind) : Stands x v (s.on D) := by
  unfold Step.on
  split
  · rename_i hk
    have hn : s.name ≠ x := hs.resolve_right (by omega)
    unfold DS.write; split
    · exact ⟨(upd_other _ _ (Ne.symm hn)).trans h.now, h.safe, by show mine x (D.chs ++ [(s.name, _)]) = []; rw [mine_append, h.chs, mine_one_other _ hn]; rfl⟩
    · exact h
  split
  · rename_i _ hk
    have hn : s.name ≠ x := hs.resolve_right (by omega)
    unfold DS.cut; split
    · exact ⟨(upd_other _ _ (Ne.symm hn)).trans h.now, h.safe, by show mine x (D.chs ++ [(s.name, _)]) = []; rw [mine_append, h.chs, mine_one_other _ hn]; rfl⟩
    · exact h
  split
  · rename_i _ _ hk
    have hn : s.name ≠ x := hs.resolve_right (by omega)
    unfold DS.remove; split
    · exact ⟨(upd_other _ _ (Ne.symm hn)).trans h.now, h.safe, by show mine x (D.chs ++ [(s.name, _)]) = []; rw [mine_append, h.chs, mine_one_other _ hn]; rfl⟩
    · exact h
  split
  · rename_i _ _ _ hk
    have hn : s.name ≠ x := hs.resolve_right (by omega)
    unfold DS.sync; split
    · exact ⟨h.now, (upd_other _ _ (Ne.symm hn)).trans h.safe, (mine_others s.name x (Ne.symm hn) D.chs).trans h.chs⟩
    · exact h
  split
  · exact h.crash s.picks
  split
  · exact ⟨h.now, h.safe, h.chs⟩
  split
  · unfold DS.limit; split
    · exact ⟨h.now, h.safe, h.chs⟩
    · exact h
  · exact h

end Go.Proofs.Ytmegiilkcidanaa.Disk
