/-
  Put together out of texts of one chain: what they hold stands ahead of each.
-/
import Derived.Test.YtdikmlnpclklnaaGreatDoorGSlotScripts04
import Derived.LoopTactic
import Derived.Shelf.SlSortCmp.NoneTotal
/-
  Contracts of the disk's settled and Sync.
-/
namespace Go.Proofs.YtdikmlnpclklnaaGreatDoor.Disk
open Go Go.RowKit Go.Lib Go.Proofs.YtdikmlnpclklnaaGreatDoor.Law

/-- A file that is as durable as it is. -/
def SettledOut (w : World) (there : Bool) (v : Value) (e : Ending) (W : World) : Prop := e = .returned (.agg #[.bool there, v, .bool there, v, .bool true, .slice none 0 0]) ∧ Below w.heap.size w W

set_option maxRecDepth 100000 in
set_option maxHeartbeats 1000000 in
theorem settled_calls (there : Bool) (A : Option Addr) (n c : Nat) (w : World) : Calls Tryz.prog 40 #[.agg #[.bool there, .slice A n c]] w (SettledOut w there (.slice A n c)) := by
  go_enter Tryz.func40, Tryz.ntmps40
  go_wp2_with fail
  refine bodyPost_ret (v := .agg #[.bool there, .slice A n c, .bool there, .slice A n c, .bool true, .slice none 0 0]) (by simp [results, Tryz.results40, go_sem]) rfl ⟨rfl, ?_⟩
  exact ((Below.refl _ _).alloc (Nat.le_refl _) _).alloc (by simp) _

/-- What Sync leaves. -/
def SyncedD (w : World) (O : Owner) (db : Nat) (D : DS) (s : ByteArray) (e : Ending) (W : World) : Prop :=
  e = .returned (.int .i64 (D.syncN s : Nat)) ∧ ∃ O', DiskAt W O' db (D.sync s) ∧ Past w O W O'

/-- The six cells of a file are written over. -/
def setFile (W : World) (fb : Nat) (there : Bool) (v : Value) : World :=
  (((((W.setCell ⟨fb, 0, none⟩ (.bool there)).setCell ⟨fb, 1, none⟩ v).setCell ⟨fb, 2, none⟩ (.bool there)).setCell ⟨fb, 3, none⟩ v).setCell ⟨fb, 4, none⟩ (.bool true)).setCell ⟨fb, 5, none⟩ (.slice none 0 0)
theorem setFile_other {W : World} {fb k : Nat} {there : Bool} {v : Value} (h : k ≠ fb) : (setFile W fb there v).heap[k]? = W.heap[k]? := by
  unfold setFile
  rw [Below.heap_setCell _ _ _ _ h, Below.heap_setCell _ _ _ _ h, Below.heap_setCell _ _ _ _ h, Below.heap_setCell _ _ _ _ h, Below.heap_setCell _ _ _ _ h, Below.heap_setCell _ _ _ _ h]
theorem setFile_size (W : World) (fb : Nat) (there : Bool) (v : Value) : (setFile W fb there v).heap.size = W.heap.size := by simp [setFile, World.setCell]
theorem setFile_file {W : World} {fb : Nat} {nt st sh there : Bool} {nv sv cv v : Value} (h : FB W fb nt nv st sv sh cv) : FB (setFile W fb there v) fb there v there v true (.slice none 0 0) := by
  have h1 := block_set h 0 (.bool there)
  have h2 := block_set h1 1 v
  have h3 := block_set h2 2 (.bool there)
  have h4 := block_set h3 3 v
  have h5 := block_set h4 4 (.bool true)
  have h6 := block_set h5 5 (.slice none 0 0)
  exact h6.trans (by simp)

/-- The disk behind a sync of a file that is there. -/
theorem sync_done {w w0 : World} {O : Owner} {db mb fb : Nat} {D : DS} {F : ByteArray → Option Nat} {s : ByteArray} {v : KV}
    (hc : Core w O db mb D F) (hf : ∀ x ∈ D.names, x ≠ s → ∃ fb, F x = some fb ∧ FileAt w O (db + 1) x fb (D.now x) (D.safe x) (mine x D.chs)) 
    (hB : Below w.heap.size w w0) (hFs : F s = some fb) (hv : FileV w O (db + 1) s fb (D.now s) (D.safe s) (mine s D.chs) v) (hthere : (D.now s).isSome = true) :
    ∃ O', DiskAt (setFile w0 fb true (v.now (szO (D.now s)))) O' db (D.syncD s) ∧ Past w O (setFile w0 fb true (v.now (szO (D.now s)))) O' := by
  have hdb := hc.disk.lt
  have hmb : mb < w.heap.size := hc.lt mb (by rw [hc.omb]; simp)
  obtain ⟨v1, v2, v3, v4, v5, v6, v7⟩ := hv
  have hdbf : db ≠ fb := fun e => by rw [← e, hc.odb] at v6; cases v6
  have hmbf : mb ≠ fb := fun e => by rw [← e, hc.omb] at v6; cases v6
  have hnone : D.now s ≠ none := fun e => by rw [e] at hthere; cases hthere
  have hnvb := v2.own
  have hsz := setFile_size w0 fb true (v.now (szO (D.now s)))
  have hoth := fun k (hk : k ≠ fb) => setFile_other (W := w0) (there := true) (v := v.now (szO (D.now s))) hk
  have hown := setFile_file (there := true) (v := v.now (szO (D.now s))) (v1.below hB)
  have h3 : (setFile w0 fb true (v.now (szO (D.now s)))).os = w0.os ∧ (setFile w0 fb true (v.now (szO (D.now s)))).tape = w0.tape ∧ (setFile w0 fb true (v.now (szO (D.now s)))).output = w0.output := by simp [setFile, World.setCell]
  obtain ⟨W, hW⟩ : ∃ W, setFile w0 fb true (v.now (szO (D.now s))) = W := ⟨_, rfl⟩
  rw [hW] at hsz hoth hown h3 ⊢
  refine ⟨_, DiskAt.turned (fb := fb) (F' := F) hc hf ?_ ?_ ?_ (by rw [hsz]; exact hB.size) ?_ ?_ ?_ (h3.1.trans hB.os) (h3.2.1.trans hB.tape) (h3.2.2.trans hB.output)⟩
  · exact (hoth db hdbf).trans (hc.disk.below hB)
  · obtain ⟨n, hn, hm⟩ := hc.map
    exact ⟨n, hn, hm.at ((hoth mb hmbf).trans (hB.block mb hmb))⟩
  · intro x hx
    show (F x).isSome ↔ x ∈ (if D.now s = none then D.names.erase s else D.names)
    rw [if_neg hnone]
    exact hc.dom x hx
  · intro k hk ho
    obtain ⟨h1, h2⟩ := not_of_owner ho
    rw [hoth k (fun e => h2 (by rw [e]; exact v6)), hB.block k hk]
  · intro x hx hxs
    have hx' : x ∈ (if D.now s = none then D.names.erase s else D.names) := hx
    rw [if_neg hnone] at hx'
    exact ⟨hx', rfl, rfl, upd_other _ _ hxs, mine_others _ _ hxs _⟩
  · intro _
    refine ⟨hFs, ?_⟩
    have e1 : (D.syncD s).safe s = D.now s := upd_same _ _ _
    have e2 : mine s (D.syncD s).chs = [] := mine_others_same _ _
    have e3 : (D.syncD s).now s = D.now s := rfl
    rw [e1, e2, e3]
    have hb : Buf W (db + 1) 5 (v.now (szO (D.now s))) ((D.now s).getD []) := (v2.below hB).keep fun g hg => hoth g (fun e => buf_not_file v1 v2 (e ▸ hg))
    refine ⟨true, v.now (szO (D.now s)), v.now (szO (D.now s)), .slice none 0 0, ?_, hb, hb, fun g _ _ => ⟨rfl, .inl (Nat.le_refl _)⟩, OwnC.nil _ _, ?_, ?_⟩
    · rw [hthere]
      exact hown
    · rw [own_old v1.lt]; exact v6
    · rintro g (hg | hg | hg)
      · rw [own_old (v2.own g hg).2]; exact v7 g (.inl hg)
      · rw [own_old (v2.own g hg).2]; exact v7 g (.inl hg)
      · cases hg

/-- The disk behind a sync of a file that isn't there any more. -/
theorem sync_gone {w w0 W : World} {O : Owner} {db mb n : Nat} {D : DS} {F : ByteArray → Option Nat} {s : ByteArray}
    (hc : Core w O db mb D F) (hf : ∀ x ∈ D.names, ∃ fb, F x = some fb ∧ FileAt w O (db + 1) x fb (D.now x) (D.safe x) (mine x D.chs)) (hw : WF D)
    (hB : Below w.heap.size w w0) (hn : n ≤ D.made) (hm : MapP Tryz.prog 9 W mb n (fun x => if x = s then none else F x)) (ht : w0.grownBy W (some mb)) (hnone : D.now s = none) :
    ∃ O', DiskAt W O' db (D.syncD s) ∧ Past w O W O' := by
  have hdb := hc.disk.lt
  have hmb : mb < w.heap.size := hc.lt mb (by rw [hc.omb]; simp)
  have hdbm : db ≠ mb := fun e => by
    obtain ⟨n, _, D0, hD0, _⟩ := hc.map
    have h1 := hc.disk
    unfold DB at h1
    obtain ⟨es, clock, h2, _⟩ := hD0
    rw [e, h2] at h1
    cases h1
  have hs0 := hB.size
  have hs1 : w0.heap.size ≤ W.heap.size := ht.size
  have hblk : ∀ k, k < w.heap.size → k ≠ mb → W.heap[k]? = w.heap[k]? := fun k hk hne => by
    rw [ht.block k (by omega) (fun e => hne (by simpa using e)), hB.block k hk]
  have hmem : ∀ x, x ∈ (D.syncD s).names → x ≠ s ∧ x ∈ D.names := fun x hx => by
    have hx' : x ∈ (if D.now s = none then D.names.erase s else D.names) := hx
    rw [if_pos hnone, hw.nodup.mem_erase_iff] at hx'
    exact hx'
  refine ⟨_, DiskAt.turned (fb := 0) (s := s) (F' := fun x => if x = s then none else F x) hc (fun x hx _ => hf x hx) ?_ ⟨n, hn, hm⟩ ?_ (by omega) ?_ ?_ (fun hx => absurd rfl (hmem s hx).1) (ht.os.trans hB.os) (ht.tape.trans hB.tape) (ht.output.trans hB.output)⟩
  · exact (hblk db hdb hdbm).trans hc.disk
  · intro x hx
    show (if x = s then none else F x).isSome ↔ x ∈ (if D.now s = none then D.names.erase s else D.names)
    rw [if_pos hnone, hw.nodup.mem_erase_iff]
    by_cases hxs : x = s
    · rw [if_pos hxs]; simp [hxs]
    · rw [if_neg hxs, hc.dom x hx]; simp [hxs]
  · intro k hk ho
    obtain ⟨h1, h2⟩ := not_of_owner ho
    exact hblk k hk (fun e => h1 (by rw [e]; exact hc.omb))
  · intro x hx hxs
    exact ⟨(hmem x hx).2, if_neg hxs, rfl, upd_other _ _ hxs, mine_others _ _ hxs _⟩

set_option maxRecDepth 100000 in
set_option maxHeartbeats 4000000 in
theorem sync_calls (w : World) (O : Owner) (db : Nat) (D : DS) (h : DiskAt w O db D) (hw : WF D) (s : ByteArray) (hs63 : s.size ≤ 9223372036854775807) :
    Calls Tryz.prog 11 #[.pointer (some ⟨db, 0, none⟩), .string s] w (SyncedD w O db D s) := by
  obtain ⟨mb, F, hc, hf⟩ := id h
  have CR := Lib.hid (refusal_calls db mb _ _ _ _ s hs63 0 w hc.disk)
  have hmbl : mb < w.heap.size := hc.lt mb (by rw [hc.omb]; simp)
  unfold SyncedD
  by_cases hr : refN D.fails s 0 = 0
  · obtain ⟨hfail, hright, _⟩ := refN_zero hr
    have hs := short_right hright
    rw [hr] at CR
    obtain ⟨n, hn, hm⟩ := hc.map
    by_cases hin : s ∈ D.names
    · have h0 : D.syncN s = 0 := by
        unfold DS.syncN; rw [if_neg (by rw [hr]; simp), if_pos hin]
      have hD : D.sync s = D.syncD s := by unfold DS.sync; rw [if_pos h0]
      rw [h0, hD]
      obtain ⟨fb, hF, hfile⟩ := hf s hin
      obtain ⟨v, hv⟩ := hfile.vals
      obtain ⟨v1, v2, v3, v4, v5, v6, v7⟩ := id hv
      obtain ⟨nt, hnt⟩ : ∃ nt, (D.now s).isSome = nt := ⟨_, rfl⟩
      have HX : Hid (∀ W, Below w.heap.size w W → W.cell? ⟨db, 0, none⟩ = some (.map (some mb)) ∧
          (Instr.lookup 72 (.map (some mb)) (.string s) false).run Tryz.prog W = .ok (.pointer (some ⟨fb, 0, none⟩)) W ∧
          (W.cell? ⟨fb, 0, none⟩ = some (.bool nt) ∧ W.cell? ⟨fb, 1, none⟩ = some (v.now (szO (D.now s))))) := Lib.hid fun W hB => by
        have hd := hc.disk.below hB
        have hf1 := v1.below hB
        rw [hnt] at hf1
        refine ⟨hd.cells.1.1, ?_, hf1.cells.1.1, hf1.cells.1.2.1⟩
        have := (hm.at (W' := W) (hB.block _ hmbl)).look Tryz.underlying9 Tryz.underlying72 (zero_ptr _) hs
        rwa [hF] at this
      cases nt with
      | true =>
        have HF : Hid (∀ W, Below w.heap.size w W → (W.cell? ⟨fb, 0, none⟩).isSome = true ∧ (∀ i, W.frozen? ⟨fb, i, none⟩ = false) ∧ ((∃ x, W.cell? ⟨fb, 2, none⟩ = some x) ∧ (∃ x, W.cell? ⟨fb, 3, none⟩ = some x) ∧ (∃ x, W.cell? ⟨fb, 4, none⟩ = some x) ∧ ∃ x, W.cell? ⟨fb, 5, none⟩ = some x) ∧ ∃ O', DiskAt (setFile W fb true (v.now (szO (D.now s)))) O' db (D.syncD s) ∧ Past w O (setFile W fb true (v.now (szO (D.now s)))) O') := Lib.hid fun W hB => by
          have hf1 := v1.below hB
          refine ⟨by rw [hf1.cells.1.1]; rfl, hf1.cells.2, ⟨⟨_, hf1.cells.1.2.2.1⟩, ⟨_, hf1.cells.1.2.2.2.1⟩, ⟨_, hf1.cells.1.2.2.2.2.1⟩, ⟨_, hf1.cells.1.2.2.2.2.2⟩⟩, sync_done hc (fun x hx _ => hf x hx) hB hF hv hnt⟩
        have CS : Hid (∀ W, Calls Tryz.prog 40 #[.agg #[.bool true, v.now (szO (D.now s))]] W (SettledOut W true (v.now (szO (D.now s))))) := Lib.hid fun W => settled_calls true _ _ _ W
        obtain ⟨ns, hns⟩ : ∃ ns, szO (D.now s) = ns := ⟨_, rfl⟩
        obtain ⟨na, nc, hvn⟩ : ∃ na nc, v.now ns = .slice na ns nc := ⟨v.na, v.nc, rfl⟩
        rw [hns, hvn] at HX HF CS
        clear v1 v2 v3 v4 v5 v6 v7 hv hfile hF hm hn hf hc h hw hs hright hfail hr h0 hD hin hmbl hnt hns hvn
        go_enter Tryz.func11, Tryz.ntmps11
        go_wp2_with fail
        refine CR.out.mono ?_
        rintro e W ⟨rfl, hB⟩
        have HB := Lib.hid hB
        obtain ⟨x0, _, x2, x3⟩ := HX.out W hB
        clear hB
        go_wp2_with (first | (refine wpList_lookup_ran (o := ⟨some 18, _, _, _, _, _⟩) rfl _ _ _ _ rfl rfl rfl (HX.out _ HB.out).2.1 ?_))
        refine (CS.out _).mono ?_
        rintro e W2 ⟨rfl, hB2⟩
        obtain ⟨y1, y2, ⟨⟨_, y3⟩, ⟨_, y4⟩, ⟨_, y5⟩, ⟨_, y6⟩⟩, hfin⟩ := HF.out W2 (HB.out.trans (hB2.mono HB.out.size))
        obtain ⟨_, _, z0, z1⟩ := HX.out W2 (HB.out.trans (hB2.mono HB.out.size))
        have HFIN := Lib.hid hfin
        have y20 := y2 0
        have y21 := y2 1
        have y22 := y2 2
        have y23 := y2 3
        have y24 := y2 4
        have y25 := y2 5
        clear hfin hB2 y1 y2
        go_wp2_with fail
        go_ret
        exact ⟨rfl, HFIN.out⟩
      | false =>
        have hnone : D.now s = none := by
          cases hq : D.now s with
          | none => rfl
          | some b => rw [hq] at hnt; cases hnt
        have HM : Hid (∀ W, Below w.heap.size w W → ∃ w', (Builtin.delete_ #[72, 9] 0 #[.map (some mb), .string s]).run Tryz.prog W = .ok (.tuple #[]) w' ∧ ∃ O', DiskAt w' O' db (D.syncD s) ∧ Past w O w' O') := Lib.hid fun W hB => by
          obtain ⟨w', hrun, h1, h2⟩ := (hm.at (W' := W) (hB.block _ hmbl)).drop Tryz.underlying9 Tryz.underlying72 hs 0
          exact ⟨w', hrun, sync_gone hc hf hw hB hn h1 h2.grown hnone⟩
        obtain ⟨x, hx⟩ : ∃ x, v.now (szO (D.now s)) = x := ⟨_, rfl⟩
        rw [hx] at HX
        clear v1 v2 v3 v4 v5 v6 v7 hv hfile hF hm hn hf hc h hw hs hright hfail hr h0 hD hin hmbl hnt hx
        go_enter Tryz.func11, Tryz.ntmps11
        go_wp2_with fail
        refine CR.out.mono ?_
        rintro e W ⟨rfl, hB⟩
        have HB := Lib.hid hB
        obtain ⟨x0, _, x2, x3⟩ := HX.out W hB
        obtain ⟨w', hrun, hfin⟩ := HM.out W hB
        have HFIN := Lib.hid hfin
        clear hB hfin
        go_wp2_with (first | (refine wpList_lookup_ran (o := ⟨some 18, _, _, _, _, _⟩) rfl _ _ _ _ rfl rfl rfl (HX.out _ HB.out).2.1 ?_))
        go_ret
        exact ⟨rfl, HFIN.out⟩
    · have h0 : D.syncN s = 7 := by
        unfold DS.syncN; rw [if_neg (by rw [hr]; simp), if_neg hin]
      have hD : D.sync s = D := by unfold DS.sync; rw [if_neg (by rw [h0]; decide)]
      rw [h0, hD]
      have hFs : F s = none := by
        cases hq : F s with
        | none => rfl
        | some fb => exact absurd ((hc.dom s hs).1 (by rw [hq]; rfl)) hin
      have HX : Hid (∀ W, Below w.heap.size w W → W.cell? ⟨db, 0, none⟩ = some (.map (some mb)) ∧
          (Instr.lookup 72 (.map (some mb)) (.string s) false).run Tryz.prog W = .ok (.pointer none) W) := Lib.hid fun W hB => by
        have hd := hc.disk.below hB
        refine ⟨hd.cells.1.1, ?_⟩
        have := (hm.at (W' := W) (hB.block _ hmbl)).look Tryz.underlying9 Tryz.underlying72 (zero_ptr _) hs
        rwa [hFs] at this
      have HK : Hid (∀ W, Below w.heap.size w W → DiskAt W O db D ∧ Past w O W O) := Lib.hid fun W hB => ⟨h.below hB, Past.of_below O hB⟩
      clear hm hn hf hc h hw hs hright hfail hr h0 hD hin hmbl hFs
      go_enter Tryz.func11, Tryz.ntmps11
      go_wp2_with fail
      refine CR.out.mono ?_
      rintro e W ⟨rfl, hB⟩
      have HB := Lib.hid hB
      obtain ⟨x0, _⟩ := HX.out W hB
      clear hB
      go_wp2_with (first | (refine wpList_lookup_ran (o := ⟨some 18, _, _, _, _, _⟩) rfl _ _ _ _ rfl rfl rfl (HX.out _ HB.out).2 ?_))
      go_ret
      exact ⟨rfl, O, HK.out _ HB.out⟩
  · have h0 : D.syncN s = refN D.fails s 0 := by
      unfold DS.syncN; rw [if_pos hr]
    have hD : D.sync s = D := by unfold DS.sync; rw [if_neg (by rw [h0]; exact hr)]
    rw [h0, hD]
    obtain ⟨n, hn⟩ : ∃ n, refN D.fails s 0 = n := ⟨_, rfl⟩
    rw [hn] at CR hr ⊢
    have hnI : ((n : Int) != 0) = true := by rw [bne_iff_ne]; omega
    have HK : Hid (∀ W, Below w.heap.size w W → DiskAt W O db D ∧ Past w O W O) := Lib.hid fun W hB => ⟨h.below hB, Past.of_below O hB⟩
    clear hn h0 hD hr h hc hf hw hmbl
    go_enter Tryz.func11, Tryz.ntmps11
    go_wp2_with fail
    refine CR.out.mono ?_
    rintro e W ⟨rfl, hB⟩
    have HB := Lib.hid hB
    clear hB
    go_wp2_with fail
    go_ret
    exact ⟨rfl, O, HK.out _ HB.out⟩

end Go.Proofs.YtdikmlnpclklnaaGreatDoor.Disk

/-
  Contracts of the disk's Read, Durable, Pending, Used, Fail, Limit.
-/
namespace Go.Proofs.YtdikmlnpclklnaaGreatDoor.Disk
open Go Go.RowKit Go.Lib Go.Proofs.YtdikmlnpclklnaaGreatDoor.Law

/-- What Read and Durable leave: bytes of the call's own. -/
def ReadD (w : World) (o : Option (List Nat)) (e : Ending) (W : World) : Prop := ∃ v, e = .returned (.tuple #[v, .bool o.isSome]) ∧ OwnB W w.heap.size 5 v (o.getD []) ∧ Below w.heap.size w W

theorem readD_of {w W W2 : World} {o : Option (List Nat)} {e : Ending} (hB : Below w.heap.size w W) (h : ReadOut W o.isSome (o.getD []) e W2) : ReadD w o e W2 := by
  obtain ⟨v, he, hO, hB2⟩ := h
  exact ⟨v, he, ownB_low hO hB.size, hB.trans (hB2.mono hB.size)⟩

set_option maxRecDepth 100000 in
set_option maxHeartbeats 2000000 in
theorem readD_calls (w : World) (O : Owner) (db : Nat) (D : DS) (h : DiskAt w O db D) (hw : WF D) (s : ByteArray) (hs : Short s) :
    Calls Tryz.prog 12 #[.pointer (some ⟨db, 0, none⟩), .string s] w (ReadD w (D.now s)) := by
  obtain ⟨v, ns, sl, cl, nt, st, ⟨h1, h2, h3, h4⟩, hb, hb2, hc⟩ := known_at h hw s hs
  obtain ⟨sh, na, nc, sa, sc, ca, cc⟩ := v
  have CK : Hid (Calls Tryz.prog 36 #[.pointer (some ⟨db, 0, none⟩), .string s] w (KnownOut w (.agg #[.bool nt, .slice na ns nc, .bool st, .slice sa sl sc, .bool sh, .slice ca cl cc]))) := Lib.hid hc
  have CR : Hid (∀ W, Below w.heap.size w W → Calls Tryz.prog 41 #[.agg #[.bool nt, .slice na ns nc]] W fun e W2 => ∃ A n c, e = .returned (.tuple #[.slice A n c, .bool nt]) ∧ Hid (ReadD w (D.now s) e W2)) := Lib.hid fun W hB => by
    have hl := hw.nowLe s
    have e := read_calls nt (.slice na ns nc) ((D.now s).getD []) (by rw [szO_getD]; omega) W (Buf.bytes (hb.below hB))
    refine e.mono ?_
    intro e W2 hr
    obtain ⟨v', rfl, hO, _⟩ := id hr
    obtain ⟨A, c, rfl⟩ := hO.bytes.form
    refine ⟨A, _, c, rfl, Lib.hid ?_⟩
    rw [h1] at hr ⊢
    exact readD_of hB hr
  have q0 := field_now nt st sh na sa ca ns nc sl sc cl cc
  clear hc hb hb2 h hw h1 h2 h3 h4
  go_enter Tryz.func12, Tryz.ntmps12
  go_wp2_with fail
  refine CK.out.mono ?_
  rintro e W ⟨rfl, hB⟩
  have cR := CR.out W hB
  have CRR := Lib.hid cR
  clear cR hB
  go_wp2_with fail
  refine CRR.out.mono ?_
  rintro e W2 ⟨A, n, c, rfl, HR⟩
  go_wp2_with fail
  go_ret2
  exact HR.out

set_option maxRecDepth 100000 in
set_option maxHeartbeats 2000000 in
theorem durableD_calls (w : World) (O : Owner) (db : Nat) (D : DS) (h : DiskAt w O db D) (hw : WF D) (s : ByteArray) (hs : Short s) :
    Calls Tryz.prog 61 #[.pointer (some ⟨db, 0, none⟩), .string s] w (ReadD w (D.safe s)) := by
  obtain ⟨v, ns, sl, cl, nt, st, ⟨h1, h2, h3, h4⟩, hb, hb2, hc⟩ := known_at h hw s hs
  obtain ⟨sh, na, nc, sa, sc, ca, cc⟩ := v
  have CK : Hid (Calls Tryz.prog 36 #[.pointer (some ⟨db, 0, none⟩), .string s] w (KnownOut w (.agg #[.bool nt, .slice na ns nc, .bool st, .slice sa sl sc, .bool sh, .slice ca cl cc]))) := Lib.hid hc
  have CR : Hid (∀ W, Below w.heap.size w W → Calls Tryz.prog 41 #[.agg #[.bool st, .slice sa sl sc]] W fun e W2 => ∃ A n c, e = .returned (.tuple #[.slice A n c, .bool st]) ∧ Hid (ReadD w (D.safe s) e W2)) := Lib.hid fun W hB => by
    have hl := hw.safeLe s
    have e := read_calls st (.slice sa sl sc) ((D.safe s).getD []) (by rw [szO_getD]; omega) W (Buf.bytes (hb2.below hB))
    refine e.mono ?_
    intro e W2 hr
    obtain ⟨v', rfl, hO, _⟩ := id hr
    obtain ⟨A, c, rfl⟩ := hO.bytes.form
    refine ⟨A, _, c, rfl, Lib.hid ?_⟩
    rw [h3] at hr ⊢
    exact readD_of hB hr
  have q0 := field_safe nt st sh na sa ca ns nc sl sc cl cc
  clear hc hb hb2 h hw h1 h2 h3 h4
  go_enter Tryz.func61, Tryz.ntmps61
  go_wp2_with fail
  refine CK.out.mono ?_
  rintro e W ⟨rfl, hB⟩
  have cR := CR.out W hB
  have CRR := Lib.hid cR
  clear cR hB
  go_wp2_with fail
  refine CRR.out.mono ?_
  rintro e W2 ⟨A, n, c, rfl, HR⟩
  go_wp2_with fail
  go_ret2
  exact HR.out

/-- How many changes the names to come have. -/
def chCount (names : List ByteArray) (l : List (ByteArray × Chg)) : Nat := (names.map fun s => (mine s l).length).sum
theorem count_perm (l : List (ByteArray × Chg)) {a b : List ByteArray} (h : a.Perm b) : chCount a l = chCount b l := by
  unfold chCount; exact (h.map _).sum_nat
theorem mine_cons (s : ByteArray) (x : ByteArray × Chg) (l : List (ByteArray × Chg)) : mine s (x :: l) = (if x.1 = s then [x.2] else []) ++ mine s l := by
  unfold mine
  by_cases h : x.1 = s
  · rw [List.filter_cons_of_pos (by simpa using h)]; simp [h]
  · rw [List.filter_cons_of_neg (by simpa using h)]; simp [h]
theorem count_cons_out (x : ByteArray × Chg) (l : List (ByteArray × Chg)) : ∀ names : List ByteArray, x.1 ∉ names → chCount names (x :: l) = chCount names l
  | [], _ => rfl
  | a :: r, h => by
    have h1 : x.1 ≠ a := fun e => h (by simp [e])
    have := count_cons_out x l r (fun e => h (List.mem_cons_of_mem _ e))
    unfold chCount at this ⊢
    rw [List.map_cons, List.map_cons, List.sum_cons, List.sum_cons, this, mine_cons, if_neg h1]
    simp
theorem count_cons_in (x : ByteArray × Chg) (l : List (ByteArray × Chg)) : ∀ names : List ByteArray, names.Nodup → x.1 ∈ names → chCount names (x :: l) = chCount names l + 1
  | [], _, h => by simp at h
  | a :: r, hn, h => by
    rw [List.nodup_cons] at hn
    by_cases ha : x.1 = a
    · have := count_cons_out x l r (by rw [ha]; exact hn.1)
      unfold chCount at this ⊢
      rw [List.map_cons, List.map_cons, List.sum_cons, List.sum_cons, this, mine_cons, if_pos ha]
      simp; omega
    · have h2 : x.1 ∈ r := by
        rcases List.mem_cons.1 h with e | e
        · exact absurd e ha
        · exact e
      have := count_cons_in x l r hn.2 h2
      unfold chCount at this ⊢
      rw [List.map_cons, List.map_cons, List.sum_cons, List.sum_cons, this, mine_cons, if_neg ha]
      simp; omega
theorem count_all (names : List ByteArray) (hn : names.Nodup) : ∀ l : List (ByteArray × Chg), (∀ x ∈ l, x.1 ∈ names) → chCount names l = l.length
  | [], _ => by
    unfold chCount
    have : (names.map fun s => (mine s ([] : List (ByteArray × Chg))).length) = names.map fun _ => 0 := rfl
    rw [this]
    clear this hn
    induction names with
    | nil => rfl
    | cons a r ih => simpa using ih
  | x :: l, h => by
    rw [count_cons_in x l names hn (h x (by simp)), count_all names hn l (fun y hy => h y (List.mem_cons_of_mem _ hy))]; rfl
theorem WF.countAll {D : DS} (h : WF D) : chCount D.names D.chs = D.chs.length := count_all _ h.nodup _ fun x hx => (h.names x.1).2 (.inr (.inr ⟨x.2, hx⟩))

end Go.Proofs.YtdikmlnpclklnaaGreatDoor.Disk

/-
  Contract of the disk's Pending.
-/
namespace Go.Proofs.YtdikmlnpclklnaaGreatDoor.Disk
open Go Go.RowKit Go.Lib Go.Proofs.YtdikmlnpclklnaaGreatDoor.Law

/-- Where a name's file lies. -/
theorem DiskAt.files {W : World} {O : Owner} {db : Nat} {D : DS} {F : ByteArray → Option Nat} (h : ∀ s ∈ D.names, ∃ fb, F s = some fb ∧ FileAt W O (db + 1) s fb (D.now s) (D.safe s) (mine s D.chs)) {s : ByteArray} (hs : s ∈ D.names) {g : Nat} (hF : F s = some g) :
    ∃ v : KV, FileV W O (db + 1) s g (D.now s) (D.safe s) (mine s D.chs) v := by
  obtain ⟨fb, h1, h2⟩ := h s hs
  rw [hF] at h1
  obtain rfl := Option.some.inj h1
  exact h2.vals

theorem chCount_erase (l : List (ByteArray × Chg)) {names : List ByteArray} {s : ByteArray} (hs : s ∈ names) : chCount names l = (mine s l).length + chCount (names.erase s) l := by
  rw [count_perm l (List.perm_cons_erase hs)]
  unfold chCount
  rw [List.map_cons, List.sum_cons]

end Go.Proofs.YtdikmlnpclklnaaGreatDoor.Disk

/-
  Files and their changes as a row of the call's own: appended to, sorted by number.
-/
namespace Go.Proofs.YtdikmlnpclklnaaGreatDoor.Disk
open Go Go.RowKit Go.Lib Go.Sort Go.Proofs.YtdikmlnpclklnaaGreatDoor.Law

/-- Files and changes as cells. -/
def flatX : List (Nat × Chg) → List Value
  | [] => []
  | x :: r => .pointer (some ⟨x.1, 0, none⟩) :: .int .i64 (x.2.n : Nat) :: .int .i64 (x.2.kind : Nat) :: .int .i64 (x.2.pos : Nat) :: .string x.2.s :: flatX r
theorem flatX_length : ∀ l : List (Nat × Chg), (flatX l).length = l.length * 5
  | [] => rfl
  | x :: r => by simp only [flatX, List.length_cons, flatX_length r]; omega
theorem flatX_append : ∀ a b : List (Nat × Chg), flatX (a ++ b) = flatX a ++ flatX b
  | [], b => by simp [flatX]
  | x :: a, b => by simp only [List.cons_append, flatX, flatX_append a b]
theorem flatX_one : ∀ l : List (Nat × Chg), ∀ u ∈ flatX l, u.oneCell' = true
  | [], u, h => by simp [flatX] at h
  | x :: r, u, h => by
    simp only [flatX, List.mem_cons] at h
    rcases h with rfl | rfl | rfl | rfl | rfl | h
    · rfl
    · rfl
    · rfl
    · rfl
    · rfl
    · exact flatX_one r u h
theorem flatX_get : ∀ (l : List (Nat × Chg)) (t : Nat), t < l.length * 5 → (flatX l)[t]? = some ((encX (l.toArray[t / 5]!))[t % 5]!)
  | [], t, h => by simp at h
  | x :: r, t, h => by
    by_cases h5 : t < 5
    · have e1 : t / 5 = 0 := by omega
      have e2 : t % 5 = t := by omega
      rw [e1, e2]
      match t, h5 with
      | 0, _ => rfl
      | 1, _ => rfl
      | 2, _ => rfl
      | 3, _ => rfl
      | 4, _ => rfl
    · obtain ⟨u, rfl⟩ : ∃ u, t = u + 5 := ⟨t - 5, by omega⟩
      have e1 : (u + 5) / 5 = u / 5 + 1 := by omega
      have e2 : (u + 5) % 5 = u % 5 := by omega
      rw [e1, e2]
      have := flatX_get r u (by simp only [List.length_cons] at h; omega)
      have e3 : (x :: r).toArray[u / 5 + 1]! = r.toArray[u / 5]! := by simp
      rw [e3]
      show (flatX r)[u]? = _
      exact this
theorem flatK_toList (l : List (Nat × Chg)) : (flatK encX 5 l.toArray).toList = flatX l := by
  apply List.ext_getElem?
  intro t
  by_cases h : t < l.length * 5
  · rw [flatX_get l t h]
    have hs : t < (flatK encX 5 l.toArray).size := by rw [size_flatK]; simpa using h
    have := get_flatK encX 5 l.toArray t (by simpa using h)
    rw [getElem!_pos _ t hs] at this
    rw [Array.getElem?_toList, Array.getElem?_eq_getElem hs, this]
  · rw [List.getElem?_eq_none (by rw [Array.length_toList, size_flatK]; simp; omega), List.getElem?_eq_none (by rw [flatX_length]; omega)]

/-- A row of files and changes. -/
def OwnX (W : World) (base : Nat) (v : Value) (l : List (Nat × Chg)) : Prop := W.ownsRow base 126 5 v l.length (flatX l)
theorem OwnX.nil (W : World) (base : Nat) : OwnX W base (.slice none 0 0) [] := ⟨rfl, .inl ⟨rfl, rfl⟩⟩
theorem OwnX.own {W : World} {base : Nat} {v : Value} {l : List (Nat × Chg)} (h : OwnX W base v l) : ∀ g, v.ownBlock = some g → base ≤ g ∧ g < W.heap.size := fun g hg => World.ownsRow.lt h g hg
theorem OwnX.form {W : World} {base : Nat} {v : Value} {l : List (Nat × Chg)} (h : OwnX W base v l) : ∃ A cap, v = .slice A l.length cap := by
  rcases h.2 with ⟨rfl, h0⟩ | ⟨g, cap, cur, rfl, _⟩
  · exact ⟨none, 0, by rw [h0]⟩
  · exact ⟨_, _, rfl⟩
theorem OwnX.keep {W W' : World} {base : Nat} {v : Value} {l : List (Nat × Chg)} (h : OwnX W base v l) (hb : ∀ g, v.ownBlock = some g → W'.heap[g]? = W.heap[g]?) : OwnX W' base v l := by
  refine ⟨h.1, ?_⟩
  rcases h.2 with h0 | ⟨g, cap, cur, rfl, h1, h2, h3⟩
  · exact .inl h0
  · exact .inr ⟨g, cap, cur, rfl, h1, (hb g rfl).trans h2, h3⟩
/-- The row's block is a row of such cells. -/
theorem OwnX.tag {W : World} {base : Nat} {v : Value} {l : List (Nat × Chg)} (h : OwnX W base v l) {g : Nat} (hg : v.ownBlock = some g) : ∃ cur, W.heap[g]? = some (.cells cur 126 (0, 0)) := by
  rcases h.2 with ⟨rfl, _⟩ | ⟨g', cap, cur, rfl, _, h2, _⟩
  · cases hg
  · simp only [Value.ownBlock, Option.some.injEq] at hg
    subst hg
    exact ⟨cur, h2⟩

theorem info_ofFile : (Tryz.prog.info? 126).map (fun i => (i.zero, i.size, i.bytes)) = some (some (.agg #[.pointer none, .int .i64 0, .int .i64 0, .int .i64 0, .string ⟨#[]⟩]), 5, 48) := by kernel_rfl

theorem OwnX.append {W : World} {base : Nat} {v : Value} {l : List (Nat × Chg)} (h : OwnX W base v l) (hbase : base ≤ W.heap.size) (x : Nat × Chg) (ty : TypeId) (b : Nat) {tg : TypeId}
    (hb : W.heap[b]? = some (.cells #[.pointer (some ⟨x.1, 0, none⟩), .int .i64 (x.2.n : Nat), .int .i64 (x.2.kind : Nat), .int .i64 (x.2.pos : Nat), .string x.2.s] tg (0, 0))) (hroom : (l.length + 1) * 48 ≤ 140737488355328) :
    ∃ v' W', (Builtin.append_ #[124, 124] ty #[v, .slice (some ⟨b, 0, none⟩) 1 1]).run Tryz.prog W = .ok v' W' ∧ OwnX W' base v' (l ++ [x]) ∧ W.grownBy W' v.ownBlock ∧ (v'.ownBlock = v.ownBlock ∨ v'.ownBlock = some W.heap.size) := by
  obtain ⟨i0, hi, hz0, hz1, hz2⟩ := info_parts info_ofFile
  obtain ⟨v', W', hrun, h2, h3, _, h5⟩ := run_append_own_at (P := Tryz.prog) W base 124 ty 126 i0 _ 5 48 Tryz.underlying124 hi hz0 hz1 hz2 rfl (by decide) v l.length (flatX l) h ⟨b, 0, none⟩ 1 1 (flatX [x]) (flatX_length [x])
    (fun j u hu => by
      rw [Addr.add_lit]
      match j, hu with
      | 0, hu => simp [flatX] at hu; subst hu; simp [World.cell?, hb]
      | 1, hu => simp [flatX] at hu; subst hu; simp [World.cell?, hb]
      | 2, hu => simp [flatX] at hu; subst hu; simp [World.cell?, hb]
      | 3, hu => simp [flatX] at hu; subst hu; simp [World.cell?, hb]
      | 4, hu => simp [flatX] at hu; subst hu; simp [World.cell?, hb]
      | j + 5, hu => simp [flatX] at hu) (flatX_one [x]) (by simp only [maxLen]; omega) hroom hbase
  refine ⟨v', W', hrun, ?_, h3, h5⟩
  show W'.ownsRow _ _ _ _ _ _
  rw [List.length_append, flatX_append]
  exact h2

theorem take_putCells_id (cur F : Array Value) (h : F.size ≤ cur.size) : (putCells id 0 F cur).toList.take F.size = F.toList := by
  apply List.ext_getElem?
  intro j
  by_cases hj : j < F.size
  · rw [List.getElem?_take_of_lt hj, Array.getElem?_toList]
    simp [putCells, hj, show j < cur.size by omega]
  · rw [List.getElem?_take_eq_none (by omega), List.getElem?_eq_none (by simp; omega)]

/-- A row that is sorted by number: the same ones, in their order. -/
theorem OwnX.sort {W : World} {base : Nat} {v : Value} {l m : List (Nat × Chg)} (h : OwnX W base v l) (hp : l.Perm m) (hm : m.Pairwise fun a b => a.2.n < b.2.n) (hlen : l.length ≤ 4294967296) :
    Calls Tryz.prog 77 #[v, .func (.func 78) #[] #[]] W fun e W' => e = .returned (.tuple #[]) ∧ OwnX W' base v m ∧ W.grownBy W' v.ownBlock := by
  by_cases h0 : l.length = 0
  · obtain ⟨A, cap, rfl⟩ := h.form
    have hl : l = [] := List.eq_nil_of_length_eq_zero h0
    subst hl
    have hm0 : m = [] := by simpa using hp.symm.eq_nil
    subst hm0
    have hcon := AnyF.slices_SortFunc_none (P := Tryz.prog) (ρ := _) { Tryz.sortOfFile with } A cap (.func (.func 78) #[] #[]) W
    change Calls Tryz.prog 77 _ _ _ at hcon
    refine hcon.mono ?_
    rintro e W' ⟨rfl, rfl⟩
    exact ⟨rfl, h, rfl, rfl, rfl, Nat.le_refl _, fun _ _ _ => rfl⟩
  · rcases h.2 with ⟨_, h1⟩ | ⟨g, cap, cur, rfl, hbg, hg, hn, hcm, hcs, ht⟩
    · exact absurd h1 h0
    · have hgl := (Array.getElem?_eq_some_iff.1 hg).1
      have hH : HoldsK encX 5 W g 0 l.toArray := by
        intro t ht'
        have ht2 : t < l.length * 5 := by simpa using ht'
        refine ⟨?_, by simp [World.frozen?, hg]⟩
        have h1 : (cur.toList.take (l.length * 5))[t]? = (flatX l)[t]? := by rw [ht]
        rw [List.getElem?_take_of_lt ht2, ← flatK_toList, Array.getElem?_toList, Array.getElem?_toList] at h1
        have hs : t < (flatK encX 5 l.toArray).size := ht'
        simp only [World.cell?, hg, Nat.zero_add, Option.isSome_none, Bool.false_eq_true, if_false]
        rw [h1, Array.getElem?_eq_getElem hs, getElem!_pos _ t hs]
        rfl
      have hcon := sortX_calls g 0 cap l.toArray W hH hgl (by simp; omega)
      simp only [List.size_toArray] at hcon
      refine hcon.mono ?_
      rintro e W' ⟨rfl, d', n, os, hperm, hsort, rfl⟩
      obtain ⟨hsz, _, hpp⟩ := hperm
      have hsz' : d'.size = l.length := by simpa using hsz
      have e1 : d'.extract 0 l.length = d' := by rw [← hsz']; simp
      have e2 : l.toArray.extract 0 l.length = l.toArray := by
        have : l.length = l.toArray.size := by simp
        rw [this]; simp
      rw [e1, e2] at hpp
      have hpm : d'.toList.Perm m := hpp.trans hp
      have hsorted : d'.toList.Pairwise fun a b => a.2.n ≤ b.2.n := by
        rw [List.pairwise_iff_getElem]
        intro i j hi hj hij
        have := hsort i j (Nat.zero_le _) hij (by rw [Array.length_toList] at hj; omega)
        rw [ltX, getElem!_pos d' i (by rw [Array.length_toList] at hi; exact hi), getElem!_pos d' j (by rw [Array.length_toList] at hj; exact hj)] at this
        simp only [decide_eq_false_iff_not, Nat.not_lt] at this
        simpa using this
      have hdm : d'.toList = m := by
        refine List.Perm.eq_of_pairwise (le := fun a b => a.2.n ≤ b.2.n) ?_ hsorted (hm.imp fun h => Nat.le_of_lt h) hpm
        intro a b ha hb h1 h2
        have ha' : a ∈ m := hpm.subset ha
        have he : a.2.n = b.2.n := Nat.le_antisymm h1 h2
        by_cases hab : a = b
        · exact hab
        · exfalso
          obtain ⟨i, hi, hia⟩ := List.getElem_of_mem ha'
          obtain ⟨j, hj, hjb⟩ := List.getElem_of_mem hb
          rw [List.pairwise_iff_getElem] at hm
          rcases Nat.lt_trichotomy i j with h | h | h
          · have := hm i j hi hj h
            rw [hia, hjb] at this; omega
          · subst h
            exact hab (hia.symm.trans hjb)
          · have := hm j i hj hi h
            rw [hia, hjb] at this; omega
      have hml : m.length = l.length := hp.length_eq.symm
      have hda : d' = m.toArray := by rw [← hdm]
      refine ⟨rfl, ⟨by rw [flatX_length], .inr ⟨g, cap, putCells id 0 (flatK encX 5 d') cur, by rw [hml], hbg, ?_, by omega, hcm, by simp [putCells, hcs], ?_⟩⟩, rfl, rfl, rfl, ?_, fun k hk hne => ?_⟩
      · unfold sortWorldK putRowK
        rw [heap_grow_old _ _ (by simp [putRow, mapBlock, Sort.ahead]; exact hgl)]
        simp [putRow, mapBlock, Sort.ahead, Array.getElem?_modify, hg, onCells]
      · have hFs : (flatK encX 5 d').size = m.length * 5 := by rw [size_flatK, hsz', hml]
        rw [← hFs, take_putCells_id _ _ (by rw [hFs, hcs, hml]; exact Nat.mul_le_mul_right 5 hn), hda, flatK_toList]
      · simp [sortWorldK, putRowK, putRow, mapBlock, Sort.ahead, grow]
      · unfold sortWorldK putRowK
        rw [heap_grow_old _ _ (by simp [putRow, mapBlock, Sort.ahead]; exact hk)]
        have : g ≠ k := fun e => hne (by simp [Value.ownBlock, e])
        simp [putRow, mapBlock, Sort.ahead, Array.getElem?_modify, this]

end Go.Proofs.YtdikmlnpclklnaaGreatDoor.Disk

/-
  Contract of the disk's changes: all files' changes, in the order of their numbers.
-/
namespace Go.Proofs.YtdikmlnpclklnaaGreatDoor.Disk
open Go Go.RowKit Go.Lib Go.Sort Go.Proofs.YtdikmlnpclklnaaGreatDoor.Law

/-- A file's changes with its block. -/
def tagged (F : ByteArray → Option Nat) (s : ByteArray) (l : List Chg) : List (Nat × Chg) := l.map fun c => ((F s).getD 0, c)
def allTagged (F : ByteArray → Option Nat) (l : List (ByteArray × Chg)) : List (Nat × Chg) := l.map fun x => ((F x.1).getD 0, x.2)

theorem flatMap_same {α β : Type} (f g : α → List β) : ∀ l : List α, (∀ x ∈ l, f x = g x) → l.flatMap f = l.flatMap g
  | [], _ => rfl
  | c :: l, h => by rw [List.flatMap_cons, List.flatMap_cons, h c (by simp), flatMap_same f g l (fun x hx => h x (List.mem_cons_of_mem _ hx))]
theorem perm_insert {α β : Type} (f g : α → List β) (y : β) (a : α) (hfg : ∀ x, x ≠ a → f x = g x) (ha : f a = y :: g a) : ∀ names : List α, names.Nodup → a ∈ names → (names.flatMap f).Perm (y :: names.flatMap g)
  | [], _, h => by simp at h
  | b :: r, hn, h => by
    rw [List.nodup_cons] at hn
    rw [List.flatMap_cons, List.flatMap_cons]
    by_cases hb : b = a
    · subst hb
      rw [flatMap_same f g r (fun x hx => hfg x (fun e => hn.1 (e ▸ hx))), ha]
      exact List.Perm.refl _
    · have h2 : a ∈ r := by
        rcases List.mem_cons.1 h with e | e
        · exact absurd e.symm hb
        · exact e
      have ih := perm_insert f g y a hfg ha r hn.2 h2
      rw [hfg b hb]
      exact (List.Perm.append_left _ ih).trans List.perm_middle
theorem perm_tagged (F : ByteArray → Option Nat) (names : List ByteArray) (hn : names.Nodup) : ∀ l : List (ByteArray × Chg), (∀ x ∈ l, x.1 ∈ names) → (names.flatMap fun s => tagged F s (mine s l)).Perm (allTagged F l)
  | [], _ => by
    have : (names.flatMap fun s => tagged F s (mine s [])) = [] := by
      rw [List.flatMap_eq_nil_iff]
      intro s _
      rfl
    rw [this]
    exact List.Perm.refl _
  | x :: l, h => by
    have ih := perm_tagged F names hn l (fun y hy => h y (List.mem_cons_of_mem _ hy))
    refine (perm_insert _ (fun s => tagged F s (mine s l)) ((F x.1).getD 0, x.2) x.1 (fun s hs => ?_) ?_ names hn (h x (by simp))).trans (ih.cons _)
    · rw [mine_cons, if_neg (Ne.symm hs)]; rfl
    · rw [mine_cons, if_pos rfl]; rfl
theorem perm_erase_flat {α β : Type} [BEq α] [LawfulBEq α] (f : α → List β) {l : List α} {a : α} (h : a ∈ l) : (l.flatMap f).Perm (f a ++ (l.erase a).flatMap f) := by
  have := (List.perm_cons_erase h).flatMap_right f
  rwa [List.flatMap_cons] at this

/-- A variable that holds a row. -/
def BoxX (W : World) (b : Nat) (v : Value) : Prop := W.heap[b]? = some (.cells #[v] 124 (0, 0))
theorem BoxX.cell {W : World} {b : Nat} {v : Value} (h : BoxX W b v) : W.cell? ⟨b, 0, none⟩ = some v ∧ W.frozen? ⟨b, 0, none⟩ = false := by
  unfold BoxX at h
  constructor <;> simp [World.cell?, World.frozen?, h]

/-- One more in the row, by way of two new blocks. -/
theorem row_step {W : World} {bx : Nat} {v : Value} {l : List (Nat × Chg)} (hb : BoxX W bx v) (h : OwnX W (bx + 2) v l) (hs : bx + 2 ≤ W.heap.size) (x : Nat × Chg) (ty : TypeId) (hroom : l.length ≤ 4294967296) :
    ∃ A n c W2, (Builtin.append_ #[124, 124] ty #[v, .slice (some ⟨W.heap.size + 1, 0, none⟩) 1 1]).run Tryz.prog ((W.alloc (.cells #[.int .i64 (x.2.n : Nat), .int .i64 (x.2.kind : Nat), .int .i64 (x.2.pos : Nat), .string x.2.s] 85)).alloc (.cells #[.pointer (some ⟨x.1, 0, none⟩), .int .i64 (x.2.n : Nat), .int .i64 (x.2.kind : Nat), .int .i64 (x.2.pos : Nat), .string x.2.s] 126)) = .ok (.slice A n c) W2 ∧
      BoxX W2 bx v ∧ BoxX (W2.setCell ⟨bx, 0, none⟩ (.slice A n c)) bx (.slice A n c) ∧ OwnX (W2.setCell ⟨bx, 0, none⟩ (.slice A n c)) (bx + 2) (.slice A n c) (l ++ [x]) ∧
      (∀ k, k < W.heap.size → k ≠ bx → v.ownBlock ≠ some k → (W2.setCell ⟨bx, 0, none⟩ (.slice A n c)).heap[k]? = W.heap[k]?) ∧ W.heap.size ≤ (W2.setCell ⟨bx, 0, none⟩ (.slice A n c)).heap.size ∧
      (W2.setCell ⟨bx, 0, none⟩ (.slice A n c)).os = W.os ∧ (W2.setCell ⟨bx, 0, none⟩ (.slice A n c)).tape = W.tape ∧ (W2.setCell ⟨bx, 0, none⟩ (.slice A n c)).output = W.output := by
  obtain ⟨W1, hW1⟩ : ∃ W1, ((W.alloc (.cells #[.int .i64 (x.2.n : Nat), .int .i64 (x.2.kind : Nat), .int .i64 (x.2.pos : Nat), .string x.2.s] 85)).alloc (.cells #[.pointer (some ⟨x.1, 0, none⟩), .int .i64 (x.2.n : Nat), .int .i64 (x.2.kind : Nat), .int .i64 (x.2.pos : Nat), .string x.2.s] 126)) = W1 := ⟨_, rfl⟩
  rw [hW1]
  have hB : Below W.heap.size W W1 := by rw [← hW1]; exact ((Below.refl _ _).alloc (Nat.le_refl _) _).alloc (by simp) _
  have hsz : W1.heap.size = W.heap.size + 2 := by rw [← hW1]; simp
  have hnew : W1.heap[W.heap.size + 1]? = some (.cells #[.pointer (some ⟨x.1, 0, none⟩), .int .i64 (x.2.n : Nat), .int .i64 (x.2.kind : Nat), .int .i64 (x.2.pos : Nat), .string x.2.s] 126 (0, 0)) := by
    rw [← hW1]
    have := heap_alloc_new (W.alloc (.cells #[.int .i64 (x.2.n : Nat), .int .i64 (x.2.kind : Nat), .int .i64 (x.2.pos : Nat), .string x.2.s] 85)) (.cells #[.pointer (some ⟨x.1, 0, none⟩), .int .i64 (x.2.n : Nat), .int .i64 (x.2.kind : Nat), .int .i64 (x.2.pos : Nat), .string x.2.s] 126)
    rwa [World.size_alloc] at this
  have hO := h.keep (W' := W1) fun g hg => hB.block g (h.own g hg).2
  obtain ⟨v', W2, hrun, h1, h2, h3⟩ := hO.append (by omega) x ty (W.heap.size + 1) hnew (by omega)
  obtain ⟨A, c, rfl⟩ := h1.form
  have hvb : v.ownBlock ≠ some bx := fun e => by have := (h.own bx e).1; omega
  have hb2 : BoxX W2 bx v := (h2.block bx (by omega) (fun e => hvb e.symm)).trans ((hB.block bx (by omega)).trans hb)
  refine ⟨A, _, c, W2, hrun, hb2, ?_, h1.keep fun g hg => Below.heap_setCell _ _ _ _ (by have := (h1.own g hg).1; show g ≠ bx; omega), fun k hk hne hv => ?_, ?_, ?_, ?_, ?_⟩
  · exact (block_set hb2 0 _).trans (by simp)
  · rw [Below.heap_setCell _ _ _ _ hne, h2.block k (by omega) (fun e => hv e.symm), hB.block k hk]
  · have := h2.size; simp only [World.setCell, Array.size_modify]; omega
  · exact h2.os.trans hB.os
  · exact h2.tape.trans hB.tape
  · exact h2.output.trans hB.output

/-- What changes leaves: an iterator over the row. -/
def ChangesOut (w : World) (F : ByteArray → Option Nat) (D : DS) (e : Ending) (W : World) : Prop :=
  ∃ v, e = .returned (.func (.func 80) #[] #[.pointer (some ⟨w.heap.size, 0, none⟩)]) ∧ BoxX W w.heap.size v ∧ OwnX W (w.heap.size + 2) v (allTagged F D.chs) ∧ Below w.heap.size w W

set_option maxRecDepth 100000 in
set_option maxHeartbeats 4000000 in
theorem changes_calls (w : World) (O : Owner) (db mb : Nat) (D : DS) (F : ByteArray → Option Nat) (hc : Core w O db mb D F) (hf : ∀ s ∈ D.names, ∃ fb, F s = some fb ∧ FileAt w O (db + 1) s fb (D.now s) (D.safe s) (mine s D.chs)) (hw : WF D) (hmade : D.made ≤ 4294967296) :
    Calls Tryz.prog 47 #[.pointer (some ⟨db, 0, none⟩)] w (ChangesOut w F D) := by
  obtain ⟨n, hn, hm⟩ := hc.map
  have hdb := hc.disk.lt
  have hmbl := hm.lt
  -- the box, and the range behind it
  have hm1 := hm.at (W' := w.alloc (.cells #[.slice none 0 0] 124)) (Below.heap_alloc _ _ _ hmbl)
  obtain ⟨w', cnt, hrun, hR, hG, hS⟩ := hm1.rng Tryz.underlying9 Tryz.underlying72 D.names hw.nodup (fun s hs => hw.short hs) hc.dom
  rw [World.size_alloc] at hrun hR hS
  have hB0 : Below w.heap.size w w' := ((Below.refl _ _).alloc (Nat.le_refl _) (.cells #[.slice none 0 0] 124)).grown hG (by simp) (fun k e => by cases e)
  have hbox0 : BoxX w' w.heap.size (.slice none 0 0) := (hG.block _ (by simp) (by simp)).trans (heap_alloc_new w _)
  have hperm0 : (([] : List (Nat × Chg)) ++ D.names.flatMap fun s => tagged F s (mine s D.chs)).Perm (allTagged F D.chs) := perm_tagged F D.names hw.nodup D.chs (fun x hx => (hw.names x.1).2 (.inr (.inr ⟨x.2, hx⟩)))
  have hlen : (allTagged F D.chs).length ≤ 4294967296 := by unfold allTagged; rw [List.length_map]; have := hw.len; omega
  have hasc : (allTagged F D.chs).Pairwise fun a b => a.2.n < b.2.n := by
    unfold allTagged
    rw [List.pairwise_map]
    exact hw.asc
  obtain ⟨⟨d0, _⟩, _⟩ := hc.disk.cells
  have d0a : (w.alloc (.cells #[.slice none 0 0] 124)).cell? ⟨db, 0, none⟩ = some (.map (some mb)) := (((Below.refl _ _).alloc (Nat.le_refl _) _).cell (p := ⟨db, 0, none⟩) hdb).trans d0
  -- a file's row of changes
  have HF : Hid (∀ s ∈ D.names, ∀ g, F s = some g → g < w.heap.size ∧ ∃ A c, w.cell? ⟨g, 5, none⟩ = some (.slice A (mine s D.chs).length c) ∧ (mine s D.chs).length ≤ c ∧ ∀ i (hi : i < (mine s D.chs).length), ∃ cg, A = some ⟨cg, 0, none⟩ ∧ cg < w.heap.size ∧
      w.cell? ⟨cg, i * 4, none⟩ = some (.int .i64 ((mine s D.chs)[i].n : Nat)) ∧ w.cell? ⟨cg, i * 4 + 1, none⟩ = some (.int .i64 ((mine s D.chs)[i].kind : Nat)) ∧ w.cell? ⟨cg, i * 4 + 2, none⟩ = some (.int .i64 ((mine s D.chs)[i].pos : Nat)) ∧ w.cell? ⟨cg, i * 4 + 3, none⟩ = some (.string (mine s D.chs)[i].s)) := Lib.hid fun s hs g hg => by
    obtain ⟨v, hv⟩ := DiskAt.files hf hs hg
    obtain ⟨v1, _, _, _, v5, _⟩ := hv
    refine ⟨v1.lt, v.ca, v.cc, v1.cells.1.2.2.2.2.2, ?_, fun i hi => ?_⟩
    · rcases v5.2 with ⟨h1, h2⟩ | ⟨cg, cap, cur, h1, _, _, h3, _⟩
      · simp only [KV.chs, Value.slice.injEq] at h1
        omega
      · simp only [KV.chs, Value.slice.injEq] at h1
        obtain ⟨_, _, rfl⟩ := h1
        exact h3
    · rcases v5.2 with ⟨_, h2⟩ | ⟨cg, cap, cur, h1, _, h2, h3, h4, h5, h6⟩
      · omega
      · simp only [KV.chs, Value.slice.injEq] at h1
        have hcell : ∀ j u, (flatC (mine s D.chs))[j]? = some u → w.cell? ⟨cg, j, none⟩ = some u := fun j u hu => by
          have hj : j < (mine s D.chs).length * 4 := by have := (List.getElem?_eq_some_iff.1 hu).1; rwa [flatC_length] at this
          simp only [World.cell?, h2, Option.isSome_none, Bool.false_eq_true, if_false]
          rw [← Array.getElem?_toList, ← List.getElem?_take_of_lt hj, h6]
          exact hu
        have hflat : ∀ (l : List Chg) (i : Nat) (hi : i < l.length), (flatC l)[i * 4]? = some (.int .i64 (l[i].n : Nat)) ∧ (flatC l)[i * 4 + 1]? = some (.int .i64 (l[i].kind : Nat)) ∧ (flatC l)[i * 4 + 2]? = some (.int .i64 (l[i].pos : Nat)) ∧ (flatC l)[i * 4 + 3]? = some (.string l[i].s) := fun l => by
          induction l with
          | nil => intro i hi; simp at hi
          | cons c r ih =>
            intro i hi
            cases i with
            | zero => exact ⟨rfl, rfl, rfl, rfl⟩
            | succ i =>
              have := ih i (by simpa using hi)
              have e : (i + 1) * 4 = i * 4 + 4 := by omega
              rw [e]
              exact this
        obtain ⟨f0, f1, f2, f3⟩ := hflat (mine s D.chs) i hi
        exact ⟨cg, h1.1, (Array.getElem?_eq_some_iff.1 h2).1, hcell _ _ f0, hcell _ _ f1, hcell _ _ f2, hcell _ _ f3⟩
  have HMS : Hid (∀ s, (mine s D.chs).length ≤ 4294967296) := Lib.hid fun s => Nat.le_trans (hw.mineLe s) hmade
  obtain ⟨L, hL⟩ : ∃ L, allTagged F D.chs = L := ⟨_, rfl⟩
  unfold ChangesOut
  rw [hL] at hperm0 hlen hasc ⊢
  have HRUN := Lib.hid hrun
  have H0 := Lib.hid (And.intro hR (And.intro hB0 (And.intro hbox0 hperm0)))
  have HL := Lib.hid (And.intro hlen hasc)
  have hdbw : db < w.heap.size := hdb
  have hs2 : w'.heap.size = w.heap.size + 2 := hS
  clear hc hf hw hm hm1 hrun hR hG hS hB0 hbox0 hperm0 hlen hasc hL hmade d0
  go_enter Tryz.func47, Tryz.ntmps47
  go_wp2_with (first | (at_range; refine wpList_range_ran rfl _ _ rfl rfl HRUN.out ?_))
  go_frame
  go_loopw [5] (fun _ wr => ∃ (rest : List ByteArray) (col : List (Nat × Chg)) (c : Nat) (v : Value), Rng Tryz.prog 9 wr mb (w.heap.size + 1) n F rest c ∧ Hid (BoxX wr w.heap.size v) ∧ Hid (OwnX wr (w.heap.size + 2) v col) ∧ Hid ((col ++ rest.flatMap fun s => tagged F s (mine s D.chs)).Perm L) ∧ Hid (Below w.heap.size w wr) ∧ w.heap.size + 2 ≤ wr.heap.size ∧ ∀ s ∈ rest, s ∈ D.names)
    (fun _ wr => wr.rangeLeft mb (w.heap.size + 1))
  case atStart => exact ⟨D.names, [], cnt, _, H0.out.1, Lib.hid H0.out.2.2.1, Lib.hid (OwnX.nil _ _), Lib.hid H0.out.2.2.2, Lib.hid H0.out.2.1, by omega, fun _ h => h⟩
  case round =>
    obtain ⟨rest, col, c, v, hrng, HBX, HO, HP, HB, hsz, hsub⟩ := hrel
    have hleft := hrng.left
    rcases hrng.next Tryz.underlying9 0 with ⟨rfl, hnx⟩ | ⟨s, g, w1, c1, hs, hF, hnx, hrng1, hlt, hg1, hs1, hen⟩
    · have HNX := Lib.hid hnx
      have hO := HO.out
      obtain ⟨A, cc, rfl⟩ := hO.form
      have hp : col.Perm L := by have := HP.out; simpa using this
      have hgo : ∀ k, (Value.slice A col.length cc).ownBlock = some k → w.heap.size ≤ k ∧ k ≠ w.heap.size := fun k hk => by have := (hO.own k hk).1; omega
      have CS : Hid (Calls Tryz.prog 77 #[.slice A col.length cc, .func (.func 78) #[] #[]] wr fun e W' => e = .returned (.tuple #[]) ∧ Hid (BoxX W' w.heap.size (.slice A col.length cc) ∧ OwnX W' (w.heap.size + 2) (.slice A col.length cc) L ∧ Below w.heap.size w W')) := Lib.hid ((hO.sort hp HL.out.2 (by have := hp.length_eq; have := HL.out.1; omega)).mono fun e W' h => ⟨h.1, Lib.hid ⟨(h.2.2.block w.heap.size (by omega) (fun e => (hgo _ e.symm).2 rfl)).trans HBX.out, h.2.1, HB.out.grown h.2.2 HB.out.size (fun k e => (hgo k e).1)⟩⟩)
      obtain ⟨b0, b1⟩ := HBX.out.cell
      clear hnx hrng hleft hO hp hgo HP
      go_wp2_with (first | (at_next; refine wpList_next_ran rfl _ _ rfl rfl HNX.out ?_))
      refine CS.out.mono ?_
      rintro e W' ⟨rfl, HE⟩
      go_wp2_with fail
      go_ret
      exact ⟨_, rfl, HE.out⟩
    · have HNX := Lib.hid hnx
      have HEN := Lib.hid hen
      obtain ⟨hgl, A, cc, hcell, hcapA, hch⟩ := HF.out s (hsub s hs) g hF
      have hB1 : Below w.heap.size w w1 := HB.out.grown hg1 HB.out.size (fun k e => by cases e; exact Nat.le_succ _)
      have hcell1 : w1.cell? ⟨g, 5, none⟩ = some (.slice A (mine s D.chs).length cc) := (hB1.cell (p := ⟨g, 5, none⟩) hgl).trans hcell
      have hrb : ∀ k, v.ownBlock = some k → k ≠ w.heap.size + 1 := fun k hk e => by
        subst e
        obtain ⟨cur, h1⟩ := HO.out.tag hk
        obtain ⟨_, _, _, _, h2⟩ := hrng.isIter
        rw [h1] at h2; cases h2
      have hbox1 : BoxX w1 w.heap.size v := (hg1.block _ (by omega) (by simp)).trans HBX.out
      have hO1 : OwnX w1 (w.heap.size + 2) v col := HO.out.keep fun k hk => hg1.block k (HO.out.own k hk).2 (fun e => hrb k hk (by simpa using e))
      have hp1 : (col ++ (tagged F s (mine s D.chs) ++ (rest.erase s).flatMap fun s => tagged F s (mine s D.chs))).Perm L := ((perm_erase_flat _ hs).symm.append_left col).trans HP.out
      have hcolL : col.length + (mine s D.chs).length ≤ 4294967296 := by
        have h1 := hp1.length_eq
        have h2 := HL.out.1
        simp only [List.length_append, tagged, List.length_map] at h1
        omega
      have hFg : (F s).getD 0 = g := by rw [hF]; rfl
      have htag : ∀ i (hi : i < (mine s D.chs).length), tagged F s ((mine s D.chs).take (i + 1)) = tagged F s ((mine s D.chs).take i) ++ [(g, (mine s D.chs)[i])] := fun i hi => by
        unfold tagged
        rw [List.take_succ_eq_append_getElem hi, List.map_append, hFg]
        rfl
      have hall : tagged F s ((mine s D.chs).take (mine s D.chs).length) = tagged F s (mine s D.chs) := by rw [List.take_length]
      have hml := HMS.out s
      obtain ⟨ms, hms⟩ : ∃ ms, mine s D.chs = ms := ⟨_, rfl⟩
      rw [hms] at hcell1 hch hcapA hp1 hcolL htag hall hml
      obtain ⟨ml, hml2⟩ : ∃ ml, ms.length = ml := ⟨_, rfl⟩
      have hsub1 : ∀ x ∈ rest.erase s, x ∈ D.names := fun x hx => hsub x (List.mem_of_mem_erase hx)
      have H1 := Lib.hid (And.intro hrng1 (And.intro hbox1 (And.intro hO1 (And.intro hp1 hB1))))
      have HCH := Lib.hid hch
      have HT := Lib.hid (And.intro htag hall)
      have HSUB := Lib.hid hsub1
      have hsz1 : w.heap.size + 2 ≤ w1.heap.size := by omega
      have HLEFT := Lib.hid (And.intro hleft hlt)
      have HML := Lib.hid hml2
      rw [hml2] at hcell1 hcapA hcolL hml
      have hcapI : (ml : Int) ≤ (cc : Int) := by omega
      clear hnx hen hrng hrng1 hcell hB1 hg1 hbox1 hO1 hp1 hch htag hall hms hsub hsub1 HP HB HO HBX hrb hleft hF hFg hlt hml2 hcapA hs hs1 hsz
      go_wp2_with (first | (at_next; refine wpList_next_ran rfl _ _ rfl rfl HNX.out ?_) | (refine wpList_entry_ran (o := ⟨some 15, _, _, _, _, _⟩) rfl _ rfl rfl HEN.out ?_))
      go_loopw [22] (fun i wq => ∃ (k : Nat) (col2 : List (Nat × Chg)) (v2 : Value), i = .int .i64 k ∧ k ≤ ml ∧ Hid (Rng Tryz.prog 9 wq mb (w.heap.size + 1) n F (rest.erase s) c1) ∧ Hid (BoxX wq w.heap.size v2) ∧ Hid (OwnX wq (w.heap.size + 2) v2 col2) ∧ Hid (col2 = col ++ tagged F s (ms.take k)) ∧ Hid (Below w.heap.size w wq) ∧ w.heap.size + 2 ≤ wq.heap.size)
        (fun i _ => ml - (intOf i).toNat)
      case atStart => exact ⟨0, col, v, rfl, Nat.zero_le _, Lib.hid H1.out.1, Lib.hid H1.out.2.1, Lib.hid H1.out.2.2.1, Lib.hid (by simp [tagged]), Lib.hid H1.out.2.2.2.2, hsz1⟩
      case round =>
        obtain ⟨k, col2, v2, rfl, hk, HR2, HBX2, HO2, HC2, HB2, hsz2⟩ := hrel
        by_cases hlt : k < ml
        · obtain ⟨cg, rfl, hcg, f0, f1, f2, f3⟩ := HCH.out k (by rw [HML.out]; exact hlt)
          have p0 := (HB2.out.cell (p := ⟨cg, k * 4, none⟩) hcg).trans f0
          have p1 := (HB2.out.cell (p := ⟨cg, k * 4 + 1, none⟩) hcg).trans f1
          have p2 := (HB2.out.cell (p := ⟨cg, k * 4 + 2, none⟩) hcg).trans f2
          have p3 := (HB2.out.cell (p := ⟨cg, k * 4 + 3, none⟩) hcg).trans f3
          obtain ⟨x, hx⟩ : ∃ x, ms[k]'(by rw [HML.out]; exact hlt) = x := ⟨_, rfl⟩
          rw [hx] at p0 p1 p2 p3
          have hl2 : col2.length ≤ 4294967296 := by
            rw [HC2.out, List.length_append]
            unfold tagged
            rw [List.length_map, List.length_take]
            have : Nat.min k ms.length ≤ ml := Nat.le_trans (Nat.min_le_left _ _) hk
            exact Nat.le_trans (Nat.add_le_add_left this _) hcolL
          obtain ⟨A3, n3, c3, W2, hrun, hb2, hb3, ho3, hfr, hsz3, hos, htp, hout⟩ := row_step HBX2.out HO2.out hsz2 (g, x) 124 hl2
          have hown2 := HO2.out.own
          have hvmb : v2.ownBlock ≠ some mb := fun e => by have := (hown2 mb e).1; omega
          have hvr : v2.ownBlock ≠ some (w.heap.size + 1) := fun e => by have := (hown2 _ e).1; omega
          have hR3 : Rng Tryz.prog 9 (W2.setCell ⟨w.heap.size, 0, none⟩ (.slice A3 n3 c3)) mb (w.heap.size + 1) n F (rest.erase s) c1 := HR2.out.at (hfr mb (by have := HB2.out.size; omega) (by omega) hvmb) (hfr _ (by omega) (by omega) hvr)
          have hB3 : Below w.heap.size w (W2.setCell ⟨w.heap.size, 0, none⟩ (.slice A3 n3 c3)) := ⟨hos.trans HB2.out.os, htp.trans HB2.out.tape, hout.trans HB2.out.output, Nat.le_trans HB2.out.size hsz3, fun j hj => (hfr j (by have := HB2.out.size; omega) (by omega) (fun e => by have := (hown2 j e).1; omega)).trans (HB2.out.block j hj)⟩
          have hc3 : col2 ++ [(g, x)] = col ++ tagged F s (ms.take (k + 1)) := by
            rw [HT.out.1 k (by rw [HML.out]; exact hlt), ← List.append_assoc, ← HC2.out, hx]
          have H3 := Lib.hid (And.intro hR3 (And.intro hb3 (And.intro ho3 (And.intro hc3 (And.intro hB3 (Nat.le_trans hsz2 hsz3))))))
          have HRUN2 := Lib.hid hrun
          obtain ⟨b0, b1⟩ := HBX2.out.cell
          obtain ⟨b2, b3⟩ := hb2.cell
          have hltI : (k : Int) < (ml : Int) := by omega
          have b0a : ∀ o, (wr.alloc o).cell? ⟨w.heap.size, 0, none⟩ = some v2 := fun o => (((Below.refl _ wr).alloc (Nat.le_refl _) o).cell (p := ⟨w.heap.size, 0, none⟩) (by show w.heap.size < wr.heap.size; omega)).trans b0
          clear hR3 hb3 ho3 hc3 hB3 hrun hb2 hfr hos htp hout hown2 hvmb hvr f0 f1 f2 f3 hx hsz3 HR2 HBX2 HO2 HC2 HB2 hl2
          go_wp2_with (first | (at_builtin; refine wpList_append_ran rfl _ _ _ rfl rfl rfl HRUN2.out ?_))
          go_roundw
          case rel => exact ⟨k + 1, _, _, by go_num, by omega, Lib.hid H3.out.1, Lib.hid H3.out.2.1, Lib.hid H3.out.2.2.1, Lib.hid H3.out.2.2.2.1, Lib.hid H3.out.2.2.2.2.1, H3.out.2.2.2.2.2⟩
          case measure => simp [intOf]; omega
        · obtain rfl : k = ml := by omega
          have hpn : (col2 ++ (rest.erase s).flatMap fun s => tagged F s (mine s D.chs)).Perm L := by
            have h1 := H1.out.2.2.2.1
            rw [HC2.out, ← HML.out, HT.out.2, List.append_assoc]
            exact h1
          have HPN := Lib.hid hpn
          have hl2 := HR2.out.left
          clear hpn
          go_wp2_with fail
          go_roundw
          case rel => exact ⟨rest.erase s, col2, c1, v2, HR2.out, HBX2, HO2, HPN, HB2, hsz2, HSUB.out⟩
          case measure => rw [hl2, HLEFT.out.1]; exact HLEFT.out.2

end Go.Proofs.YtdikmlnpclklnaaGreatDoor.Disk
