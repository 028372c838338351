/-
  Put together out of texts of one chain: what they hold stands ahead of each.
-/
import Derived.Test.YtnjjjalenhbicaaGDiskStands13
/-
  Contracts of the disk's settled and Sync.
-/
namespace Go.Proofs.Ytnjjjalenhbicaa.Disk
open Go Go.RowKit Go.Lib Go.Proofs.Ytnjjjalenhbicaa.Law

/-- A file that is as durable as it is. -/
def SettledOut (w : World) (there : Bool) (v : Value) (e : Ending) (W : World) : Prop := e = .returned (.agg #[.bool there, v, .bool there, v, .bool true, .slice none 0 0]) ∧ Below w.heap.size w W

set_option maxRecDepth 100000 in
set_option maxHeartbeats 1000000 in
theorem settled_calls (there : Bool) (A : Option Addr) (n c : Nat) (w : World) : Calls Try.prog 39 #[.agg #[.bool there, .slice A n c]] w (SettledOut w there (.slice A n c)) := by
  go_enter Try.func39, Try.ntmps39
  go_wp2_with fail
  refine bodyPost_ret (v := .agg #[.bool there, .slice A n c, .bool there, .slice A n c, .bool true, .slice none 0 0]) (by simp [results, Try.results39, go_sem]) rfl ⟨rfl, ?_⟩
  exact ((Below.refl _ _).alloc (Nat.le_refl _) _).alloc (by simp) _

/-- What Sync leaves. -/
def SyncedD (w : World) (O : Owner) (db : Nat) (D : DS) (s : ByteArray) (e : Ending) (W : World) : Prop :=
  e = .returned (.int .i64 (D.syncN s : Nat)) ∧ ∃ O', DiskAt W O' db (D.sync s) ∧ Past w O W O'

/-- The six cells of a file are written over. -/
def setFile (W : World) (fb : Nat) (there : Bool) (v : Value) : World :=
  (((((W.setCell ⟨fb, 0, none⟩ (.bool there)).setCell ⟨fb, 1, none⟩ v).setCell ⟨fb, 2, none⟩ (.bool there)).setCell ⟨fb, 3, none⟩ v).setCell ⟨fb, 4, none⟩ (.bool true)).setCell ⟨fb, 5, none⟩ (.slice none 0 0)
theorem setFile_other {W : World} {fb k : Nat} {there : Bool} {v : Value} (h : k ≠ fb) : (setFile W fb there v).heap[k]? = W.heap[k]? := by
  unfold setFile
  rw [Below.heap_setCell _ _ _ _ h, Below.heap_setCell _ _ _ _ h, Below.heap_setCell _ _ _ _ h, Below.heap_setCell _ _ _ _ h, Below.heap_setCell _ _ _ _ h, Below.heap_setCell _ _ _ _ h]
theorem setFile_size (W : World) (fb : Nat) (there : Bool) (v : Value) : (setFile W fb there v).heap.size = W.heap.size := by simp [setFile, World.setCell]
theorem setFile_file {W : World} {fb : Nat} {nt st sh there : Bool} {nv sv cv v : Value} (h : FB W fb nt nv st sv sh cv) : FB (setFile W fb there v) fb there v there v true (.slice none 0 0) := by
  have h1 := block_set h 0 (.bool there)
  have h2 := block_set h1 1 v
  have h3 := block_set h2 2 (.bool there)
  have h4 := block_set h3 3 v
  have h5 := block_set h4 4 (.bool true)
  have h6 := block_set h5 5 (.slice none 0 0)
  exact h6.trans (by simp)

/-- The disk behind a sync of a file that is there. -/
theorem sync_done {w w0 : World} {O : Owner} {db mb fb : Nat} {D : DS} {F : ByteArray → Option Nat} {s : ByteArray} {v : KV}
    (hc : Core w O db mb D F) (hf : ∀ x ∈ D.names, x ≠ s → ∃ fb, F x = some fb ∧ FileAt w O (db + 1) x fb (D.now x) (D.safe x) (mine x D.chs)) 
    (hB : Below w.heap.size w w0) (hFs : F s = some fb) (hv : FileV w O (db + 1) s fb (D.now s) (D.safe s) (mine s D.chs) v) (hthere : (D.now s).isSome = true) :
    ∃ O', DiskAt (setFile w0 fb true (v.now (szO (D.now s)))) O' db (D.syncD s) ∧ Past w O (setFile w0 fb true (v.now (szO (D.now s)))) O' := by
  have hdb := hc.disk.lt
  have hmb : mb < w.heap.size := hc.lt mb (by rw [hc.omb]; simp)
  obtain ⟨v1, v2, v3, v4, v5, v6, v7⟩ := hv
  have hdbf : db ≠ fb := fun e => by rw [← e, hc.odb] at v6; cases v6
  have hmbf : mb ≠ fb := fun e => by rw [← e, hc.omb] at v6; cases v6
  have hnone : D.now s ≠ none := fun e => by rw [e] at hthere; cases hthere
  have hnvb := v2.own
  have hsz := setFile_size w0 fb true (v.now (szO (D.now s)))
  have hoth := fun k (hk : k ≠ fb) => setFile_other (W := w0) (there := true) (v := v.now (szO (D.now s))) hk
  have hown := setFile_file (there := true) (v := v.now (szO (D.now s))) (v1.below hB)
  have h3 : (setFile w0 fb true (v.now (szO (D.now s)))).os = w0.os ∧ (setFile w0 fb true (v.now (szO (D.now s)))).tape = w0.tape ∧ (setFile w0 fb true (v.now (szO (D.now s)))).output = w0.output := by simp [setFile, World.setCell]
  obtain ⟨W, hW⟩ : ∃ W, setFile w0 fb true (v.now (szO (D.now s))) = W := ⟨_, rfl⟩
  rw [hW] at hsz hoth hown h3 ⊢
  refine ⟨_, DiskAt.turned (fb := fb) (F' := F) hc hf ?_ ?_ ?_ (by rw [hsz]; exact hB.size) ?_ ?_ ?_ (h3.1.trans hB.os) (h3.2.1.trans hB.tape) (h3.2.2.trans hB.output)⟩
  · exact (hoth db hdbf).trans (hc.disk.below hB)
  · obtain ⟨n, hn, hm⟩ := hc.map
    exact ⟨n, hn, hm.at ((hoth mb hmbf).trans (hB.block mb hmb))⟩
  · intro x hx
    show (F x).isSome ↔ x ∈ (if D.now s = none then D.names.erase s else D.names)
    rw [if_neg hnone]
    exact hc.dom x hx
  · intro k hk ho
    obtain ⟨h1, h2⟩ := not_of_owner ho
    rw [hoth k (fun e => h2 (by rw [e]; exact v6)), hB.block k hk]
  · intro x hx hxs
    have hx' : x ∈ (if D.now s = none then D.names.erase s else D.names) := hx
    rw [if_neg hnone] at hx'
    exact ⟨hx', rfl, rfl, upd_other _ _ hxs, mine_others _ _ hxs _⟩
  · intro _
    refine ⟨hFs, ?_⟩
    have e1 : (D.syncD s).safe s = D.now s := upd_same _ _ _
    have e2 : mine s (D.syncD s).chs = [] := mine_others_same _ _
    have e3 : (D.syncD s).now s = D.now s := rfl
    rw [e1, e2, e3]
    have hb : Buf W (db + 1) 5 (v.now (szO (D.now s))) ((D.now s).getD []) := (v2.below hB).keep fun g hg => hoth g (fun e => buf_not_file v1 v2 (e ▸ hg))
    refine ⟨true, v.now (szO (D.now s)), v.now (szO (D.now s)), .slice none 0 0, ?_, hb, hb, fun g _ _ => ⟨rfl, .inl (Nat.le_refl _)⟩, OwnC.nil _ _, ?_, ?_⟩
    · rw [hthere]
      exact hown
    · rw [own_old v1.lt]; exact v6
    · rintro g (hg | hg | hg)
      · rw [own_old (v2.own g hg).2]; exact v7 g (.inl hg)
      · rw [own_old (v2.own g hg).2]; exact v7 g (.inl hg)
      · cases hg

/-- The disk behind a sync of a file that isn't there any more. -/
theorem sync_gone {w w0 W : World} {O : Owner} {db mb n : Nat} {D : DS} {F : ByteArray → Option Nat} {s : ByteArray}
    (hc : Core w O db mb D F) (hf : ∀ x ∈ D.names, ∃ fb, F x = some fb ∧ FileAt w O (db + 1) x fb (D.now x) (D.safe x) (mine x D.chs)) (hw : WF D)
    (hB : Below w.heap.size w w0) (hn : n ≤ D.made) (hm : MapP Try.prog 9 W mb n (fun x => if x = s then none else F x)) (ht : w0.grownBy W (some mb)) (hnone : D.now s = none) :
    ∃ O', DiskAt W O' db (D.syncD s) ∧ Past w O W O' := by
  have hdb := hc.disk.lt
  have hmb : mb < w.heap.size := hc.lt mb (by rw [hc.omb]; simp)
  have hdbm : db ≠ mb := fun e => by
    obtain ⟨n, _, D0, hD0, _⟩ := hc.map
    have h1 := hc.disk
    unfold DB at h1
    obtain ⟨es, clock, h2, _⟩ := hD0
    rw [e, h2] at h1
    cases h1
  have hs0 := hB.size
  have hs1 : w0.heap.size ≤ W.heap.size := ht.size
  have hblk : ∀ k, k < w.heap.size → k ≠ mb → W.heap[k]? = w.heap[k]? := fun k hk hne => by
    rw [ht.block k (by omega) (fun e => hne (by simpa using e)), hB.block k hk]
  have hmem : ∀ x, x ∈ (D.syncD s).names → x ≠ s ∧ x ∈ D.names := fun x hx => by
    have hx' : x ∈ (if D.now s = none then D.names.erase s else D.names) := hx
    rw [if_pos hnone, hw.nodup.mem_erase_iff] at hx'
    exact hx'
  refine ⟨_, DiskAt.turned (fb := 0) (s := s) (F' := fun x => if x = s then none else F x) hc (fun x hx _ => hf x hx) ?_ ⟨n, hn, hm⟩ ?_ (by omega) ?_ ?_ (fun hx => absurd rfl (hmem s hx).1) (ht.os.trans hB.os) (ht.tape.trans hB.tape) (ht.output.trans hB.output)⟩
  · exact (hblk db hdb hdbm).trans hc.disk
  · intro x hx
    show (if x = s then none else F x).isSome ↔ x ∈ (if D.now s = none then D.names.erase s else D.names)
    rw [if_pos hnone, hw.nodup.mem_erase_iff]
    by_cases hxs : x = s
    · rw [if_pos hxs]; simp [hxs]
    · rw [if_neg hxs, hc.dom x hx]; simp [hxs]
  · intro k hk ho
    obtain ⟨h1, h2⟩ := not_of_owner ho
    exact hblk k hk (fun e => h1 (by rw [e]; exact hc.omb))
  · intro x hx hxs
    exact ⟨(hmem x hx).2, if_neg hxs, rfl, upd_other _ _ hxs, mine_others _ _ hxs _⟩

set_option maxRecDepth 100000 in
set_option maxHeartbeats 4000000 in
theorem sync_calls (w : World) (O : Owner) (db : Nat) (D : DS) (h : DiskAt w O db D) (hw : WF D) (s : ByteArray) (hs63 : s.size ≤ 9223372036854775807) :
    Calls Try.prog 13 #[.pointer (some ⟨db, 0, none⟩), .string s] w (SyncedD w O db D s) := by
  obtain ⟨mb, F, hc, hf⟩ := id h
  have CR := Lib.hid (refusal_calls db mb _ _ _ _ s hs63 0 w hc.disk)
  have hmbl : mb < w.heap.size := hc.lt mb (by rw [hc.omb]; simp)
  unfold SyncedD
  by_cases hr : refN D.fails s 0 = 0
  · obtain ⟨hfail, hright, _⟩ := refN_zero hr
    have hs := short_right hright
    rw [hr] at CR
    obtain ⟨n, hn, hm⟩ := hc.map
    by_cases hin : s ∈ D.names
    · have h0 : D.syncN s = 0 := by
        unfold DS.syncN; rw [if_neg (by rw [hr]; simp), if_pos hin]
      have hD : D.sync s = D.syncD s := by unfold DS.sync; rw [if_pos h0]
      rw [h0, hD]
      obtain ⟨fb, hF, hfile⟩ := hf s hin
      obtain ⟨v, hv⟩ := hfile.vals
      obtain ⟨v1, v2, v3, v4, v5, v6, v7⟩ := id hv
      obtain ⟨nt, hnt⟩ : ∃ nt, (D.now s).isSome = nt := ⟨_, rfl⟩
      have HX : Hid (∀ W, Below w.heap.size w W → W.cell? ⟨db, 0, none⟩ = some (.map (some mb)) ∧
          (Instr.lookup 62 (.map (some mb)) (.string s) false).run Try.prog W = .ok (.pointer (some ⟨fb, 0, none⟩)) W ∧
          (W.cell? ⟨fb, 0, none⟩ = some (.bool nt) ∧ W.cell? ⟨fb, 1, none⟩ = some (v.now (szO (D.now s))))) := Lib.hid fun W hB => by
        have hd := hc.disk.below hB
        have hf1 := v1.below hB
        rw [hnt] at hf1
        refine ⟨hd.cells.1.1, ?_, hf1.cells.1.1, hf1.cells.1.2.1⟩
        have := (hm.at (W' := W) (hB.block _ hmbl)).look Try.underlying9 Try.underlying62 (zero_ptr _) hs
        rwa [hF] at this
      cases nt with
      | true =>
        have HF : Hid (∀ W, Below w.heap.size w W → (W.cell? ⟨fb, 0, none⟩).isSome = true ∧ (∀ i, W.frozen? ⟨fb, i, none⟩ = false) ∧ ((∃ x, W.cell? ⟨fb, 2, none⟩ = some x) ∧ (∃ x, W.cell? ⟨fb, 3, none⟩ = some x) ∧ (∃ x, W.cell? ⟨fb, 4, none⟩ = some x) ∧ ∃ x, W.cell? ⟨fb, 5, none⟩ = some x) ∧ ∃ O', DiskAt (setFile W fb true (v.now (szO (D.now s)))) O' db (D.syncD s) ∧ Past w O (setFile W fb true (v.now (szO (D.now s)))) O') := Lib.hid fun W hB => by
          have hf1 := v1.below hB
          refine ⟨by rw [hf1.cells.1.1]; rfl, hf1.cells.2, ⟨⟨_, hf1.cells.1.2.2.1⟩, ⟨_, hf1.cells.1.2.2.2.1⟩, ⟨_, hf1.cells.1.2.2.2.2.1⟩, ⟨_, hf1.cells.1.2.2.2.2.2⟩⟩, sync_done hc (fun x hx _ => hf x hx) hB hF hv hnt⟩
        have CS : Hid (∀ W, Calls Try.prog 39 #[.agg #[.bool true, v.now (szO (D.now s))]] W (SettledOut W true (v.now (szO (D.now s))))) := Lib.hid fun W => settled_calls true _ _ _ W
        obtain ⟨ns, hns⟩ : ∃ ns, szO (D.now s) = ns := ⟨_, rfl⟩
        obtain ⟨na, nc, hvn⟩ : ∃ na nc, v.now ns = .slice na ns nc := ⟨v.na, v.nc, rfl⟩
        rw [hns, hvn] at HX HF CS
        clear v1 v2 v3 v4 v5 v6 v7 hv hfile hF hm hn hf hc h hw hs hright hfail hr h0 hD hin hmbl hnt hns hvn
        go_enter Try.func13, Try.ntmps13
        go_wp2_with fail
        refine CR.out.mono ?_
        rintro e W ⟨rfl, hB⟩
        have HB := Lib.hid hB
        obtain ⟨x0, _, x2, x3⟩ := HX.out W hB
        clear hB
        go_wp2_with (first | (refine wpList_lookup_ran (o := ⟨some 18, _, _, _, _, _⟩) rfl _ _ _ _ rfl rfl rfl (HX.out _ HB.out).2.1 ?_))
        refine (CS.out _).mono ?_
        rintro e W2 ⟨rfl, hB2⟩
        obtain ⟨y1, y2, ⟨⟨_, y3⟩, ⟨_, y4⟩, ⟨_, y5⟩, ⟨_, y6⟩⟩, hfin⟩ := HF.out W2 (HB.out.trans (hB2.mono HB.out.size))
        obtain ⟨_, _, z0, z1⟩ := HX.out W2 (HB.out.trans (hB2.mono HB.out.size))
        have HFIN := Lib.hid hfin
        have y20 := y2 0
        have y21 := y2 1
        have y22 := y2 2
        have y23 := y2 3
        have y24 := y2 4
        have y25 := y2 5
        clear hfin hB2 y1 y2
        go_wp2_with fail
        go_ret
        exact ⟨rfl, HFIN.out⟩
      | false =>
        have hnone : D.now s = none := by
          cases hq : D.now s with
          | none => rfl
          | some b => rw [hq] at hnt; cases hnt
        have HM : Hid (∀ W, Below w.heap.size w W → ∃ w', (Builtin.delete_ #[62, 9] 0 #[.map (some mb), .string s]).run Try.prog W = .ok (.tuple #[]) w' ∧ ∃ O', DiskAt w' O' db (D.syncD s) ∧ Past w O w' O') := Lib.hid fun W hB => by
          obtain ⟨w', hrun, h1, h2⟩ := (hm.at (W' := W) (hB.block _ hmbl)).drop Try.underlying9 Try.underlying62 hs 0
          exact ⟨w', hrun, sync_gone hc hf hw hB hn h1 h2.grown hnone⟩
        obtain ⟨x, hx⟩ : ∃ x, v.now (szO (D.now s)) = x := ⟨_, rfl⟩
        rw [hx] at HX
        clear v1 v2 v3 v4 v5 v6 v7 hv hfile hF hm hn hf hc h hw hs hright hfail hr h0 hD hin hmbl hnt hx
        go_enter Try.func13, Try.ntmps13
        go_wp2_with fail
        refine CR.out.mono ?_
        rintro e W ⟨rfl, hB⟩
        have HB := Lib.hid hB
        obtain ⟨x0, _, x2, x3⟩ := HX.out W hB
        obtain ⟨w', hrun, hfin⟩ := HM.out W hB
        have HFIN := Lib.hid hfin
        clear hB hfin
        go_wp2_with (first | (refine wpList_lookup_ran (o := ⟨some 18, _, _, _, _, _⟩) rfl _ _ _ _ rfl rfl rfl (HX.out _ HB.out).2.1 ?_))
        go_ret
        exact ⟨rfl, HFIN.out⟩
    · have h0 : D.syncN s = 7 := by
        unfold DS.syncN; rw [if_neg (by rw [hr]; simp), if_neg hin]
      have hD : D.sync s = D := by unfold DS.sync; rw [if_neg (by rw [h0]; decide)]
      rw [h0, hD]
      have hFs : F s = none := by
        cases hq : F s with
        | none => rfl
        | some fb => exact absurd ((hc.dom s hs).1 (by rw [hq]; rfl)) hin
      have HX : Hid (∀ W, Below w.heap.size w W → W.cell? ⟨db, 0, none⟩ = some (.map (some mb)) ∧
          (Instr.lookup 62 (.map (some mb)) (.string s) false).run Try.prog W = .ok (.pointer none) W) := Lib.hid fun W hB => by
        have hd := hc.disk.below hB
        refine ⟨hd.cells.1.1, ?_⟩
        have := (hm.at (W' := W) (hB.block _ hmbl)).look Try.underlying9 Try.underlying62 (zero_ptr _) hs
        rwa [hFs] at this
      have HK : Hid (∀ W, Below w.heap.size w W → DiskAt W O db D ∧ Past w O W O) := Lib.hid fun W hB => ⟨h.below hB, Past.of_below O hB⟩
      clear hm hn hf hc h hw hs hright hfail hr h0 hD hin hmbl hFs
      go_enter Try.func13, Try.ntmps13
      go_wp2_with fail
      refine CR.out.mono ?_
      rintro e W ⟨rfl, hB⟩
      have HB := Lib.hid hB
      obtain ⟨x0, _⟩ := HX.out W hB
      clear hB
      go_wp2_with (first | (refine wpList_lookup_ran (o := ⟨some 18, _, _, _, _, _⟩) rfl _ _ _ _ rfl rfl rfl (HX.out _ HB.out).2 ?_))
      go_ret
      exact ⟨rfl, O, HK.out _ HB.out⟩
  · have h0 : D.syncN s = refN D.fails s 0 := by
      unfold DS.syncN; rw [if_pos hr]
    have hD : D.sync s = D := by unfold DS.sync; rw [if_neg (by rw [h0]; exact hr)]
    rw [h0, hD]
    obtain ⟨n, hn⟩ : ∃ n, refN D.fails s 0 = n := ⟨_, rfl⟩
    rw [hn] at CR hr ⊢
    have hnI : ((n : Int) != 0) = true := by rw [bne_iff_ne]; omega
    have HK : Hid (∀ W, Below w.heap.size w W → DiskAt W O db D ∧ Past w O W O) := Lib.hid fun W hB => ⟨h.below hB, Past.of_below O hB⟩
    clear hn h0 hD hr h hc hf hw hmbl
    go_enter Try.func13, Try.ntmps13
    go_wp2_with fail
    refine CR.out.mono ?_
    rintro e W ⟨rfl, hB⟩
    have HB := Lib.hid hB
    clear hB
    go_wp2_with fail
    go_ret
    exact ⟨rfl, O, HK.out _ HB.out⟩

end Go.Proofs.Ytnjjjalenhbicaa.Disk
