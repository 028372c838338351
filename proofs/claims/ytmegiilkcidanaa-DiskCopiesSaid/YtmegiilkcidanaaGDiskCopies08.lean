/-
  Put together out of texts of one chain: what they hold stands ahead of each.
-/
import Derived.Test.YtmegiilkcidanaaGDiskCopies07
import Derived.LoopTactic
import Derived.Shelf.SlSortCmp.NoneTotal
/-
  Contracts of the disk's settled and Sync.
-/
namespace Go.Proofs.Ytmegiilkcidanaa.Disk
open Go Go.RowKit Go.Lib Go.Proofs.Ytmegiilkcidanaa.Law

/-- A file that is as durable as it is. -/
def SettledOut (w : World) (there : Bool) (v : Value) (e : Ending) (W : World) : Prop := e = .returned (.agg #[.bool there, v, .bool there, v, .bool true, .slice none 0 0]) ∧ Below w.heap.size w W

set_option maxRecDepth 100000 in
set_option maxHeartbeats 1000000 in
theorem settled_calls (there : Bool) (A : Option Addr) (n c : Nat) (w : World) : Calls Try.prog 39 #[.agg #[.bool there, .slice A n c]] w (SettledOut w there (.slice A n c)) := by
  go_enter Try.func39, Try.ntmps39
  go_wp2_with fail
  refine bodyPost_ret (v := .agg #[.bool there, .slice A n c, .bool there, .slice A n c, .bool true, .slice none 0 0]) (by simp [results, Try.results39, go_sem]) rfl ⟨rfl, ?_⟩
  exact ((Below.refl _ _).alloc (Nat.le_refl _) _).alloc (by simp) _

/-- What Sync leaves. -/
def SyncedD (w : World) (O : Owner) (db : Nat) (D : DS) (s : ByteArray) (e : Ending) (W : World) : Prop :=
  e = .returned (.int .i64 (D.syncN s : Nat)) ∧ ∃ O', DiskAt W O' db (D.sync s) ∧ Past w O W O'

/-- The six cells of a file are written over. -/
def setFile (W : World) (fb : Nat) (there : Bool) (v : Value) : World :=
  (((((W.setCell ⟨fb, 0, none⟩ (.bool there)).setCell ⟨fb, 1, none⟩ v).setCell ⟨fb, 2, none⟩ (.bool there)).setCell ⟨fb, 3, none⟩ v).setCell ⟨fb, 4, none⟩ (.bool true)).setCell ⟨fb, 5, none⟩ (.slice none 0 0)
theorem setFile_other {W : World} {fb k : Nat} {there : Bool} {v : Value} (h : k ≠ fb) : (setFile W fb there v).heap[k]? = W.heap[k]? := by
  unfold setFile
  rw [Below.heap_setCell _ _ _ _ h, Below.heap_setCell _ _ _ _ h, Below.heap_setCell _ _ _ _ h, Below.heap_setCell _ _ _ _ h, Below.heap_setCell _ _ _ _ h, Below.heap_setCell _ _ _ _ h]
theorem setFile_size (W : World) (fb : Nat) (there : Bool) (v : Value) : (setFile W fb there v).heap.size = W.heap.size := by simp [setFile, World.setCell]
theorem setFile_file {W : World} {fb : Nat} {nt st sh there : Bool} {nv sv cv v : Value} (h : FB W fb nt nv st sv sh cv) : FB (setFile W fb there v) fb there v there v true (.slice none 0 0) := by
  have h1 := block_set h 0 (.bool there)
  have h2 := block_set h1 1 v
  have h3 := block_set h2 2 (.bool there)
  have h4 := block_set h3 3 v
  have h5 := block_set h4 4 (.bool true)
  have h6 := block_set h5 5 (.slice none 0 0)
  exact h6.trans (by simp)

/-- The disk behind a sync of a file that is there. -/
theorem sync_done {w w0 : World} {O : Owner} {db mb fb : Nat} {D : DS} {F : ByteArray → Option Nat} {s : ByteArray} {v : KV}
    (hc : Core w O db mb D F) (hf : ∀ x ∈ D.names, x ≠ s → ∃ fb, F x = some fb ∧ FileAt w O (db + 1) x fb (D.now x) (D.safe x) (mine x D.chs)) 
    (hB : Below w.heap.size w w0) (hFs : F s = some fb) (hv : FileV w O (db + 1) s fb (D.now s) (D.safe s) (mine s D.chs) v) (hthere : (D.now s).isSome = true) :
    ∃ O', DiskAt (setFile w0 fb true (v.now (szO (D.now s)))) O' db (D.syncD s) ∧ Past w O (setFile w0 fb true (v.now (szO (D.now s)))) O' := by
  have hdb := hc.disk.lt
  have hmb : mb < w.heap.size := hc.lt mb (by rw [hc.omb]; simp)
  obtain ⟨v1, v2, v3, v4, v5, v6, v7⟩ := hv
  have hdbf : db ≠ fb := fun e => by rw [← e, hc.odb] at v6; cases v6
  have hmbf : mb ≠ fb := fun e => by rw [← e, hc.omb] at v6; cases v6
  have hnone : D.now s ≠ none := fun e => by rw [e] at hthere; cases hthere
  have hnvb := v2.own
  have hsz := setFile_size w0 fb true (v.now (szO (D.now s)))
  have hoth := fun k (hk : k ≠ fb) => setFile_other (W := w0) (there := true) (v := v.now (szO (D.now s))) hk
  have hown := setFile_file (there := true) (v := v.now (szO (D.now s))) (v1.below hB)
  have h3 : (setFile w0 fb true (v.now (szO (D.now s)))).os = w0.os ∧ (setFile w0 fb true (v.now (szO (D.now s)))).tape = w0.tape ∧ (setFile w0 fb true (v.now (szO (D.now s)))).output = w0.output := by simp [setFile, World.setCell]
  obtain ⟨W, hW⟩ : ∃ W, setFile w0 fb true (v.now (szO (D.now s))) = W := ⟨_, rfl⟩
  rw [hW] at hsz hoth hown h3 ⊢
  refine ⟨_, DiskAt.turned (fb := fb) (F' := F) hc hf ?_ ?_ ?_ (by rw [hsz]; exact hB.size) ?_ ?_ ?_ (h3.1.trans hB.os) (h3.2.1.trans hB.tape) (h3.2.2.trans hB.output)⟩
  · exact (hoth db hdbf).trans (hc.disk.below hB)
  · obtain ⟨n, hn, hm⟩ := hc.map
    exact ⟨n, hn, hm.at ((hoth mb hmbf).trans (hB.block mb hmb))⟩
  · intro x hx
    show (F x).isSome ↔ x ∈ (if D.now s = none then D.names.erase s else D.names)
    rw [if_neg hnone]
    exact hc.dom x hx
  · intro k hk ho
    obtain ⟨h1, h2⟩ := not_of_owner ho
    rw [hoth k (fun e => h2 (by rw [e]; exact v6)), hB.block k hk]
  · intro x hx hxs
    have hx' : x ∈ (if D.now s = none then D.names.erase s else D.names) := hx
    rw [if_neg hnone] at hx'
    exact ⟨hx', rfl, rfl, upd_other _ _ hxs, mine_others _ _ hxs _⟩
  · intro _
    refine ⟨hFs, ?_⟩
    have e1 : (D.syncD s).safe s = D.now s := upd_same _ _ _
    have e2 : mine s (D.syncD s).chs = [] := mine_others_same _ _
    have e3 : (D.syncD s).now s = D.now s := rfl
    rw [e1, e2, e3]
    have hb : Buf W (db + 1) 5 (v.now (szO (D.now s))) ((D.now s).getD []) := (v2.below hB).keep fun g hg => hoth g (fun e => buf_not_file v1 v2 (e ▸ hg))
    refine ⟨true, v.now (szO (D.now s)), v.now (szO (D.now s)), .slice none 0 0, ?_, hb, hb, fun g _ _ => ⟨rfl, .inl (Nat.le_refl _)⟩, OwnC.nil _ _, ?_, ?_⟩
    · rw [hthere]
      exact hown
    · rw [own_old v1.lt]; exact v6
    · rintro g (hg | hg | hg)
      · rw [own_old (v2.own g hg).2]; exact v7 g (.inl hg)
      · rw [own_old (v2.own g hg).2]; exact v7 g (.inl hg)
      · cases hg

/-- The disk behind a sync of a file that isn't there any more. -/
theorem sync_gone {w w0 W : World} {O : Owner} {db mb n : Nat} {D : DS} {F : ByteArray → Option Nat} {s : ByteArray}
    (hc : Core w O db mb D F) (hf : ∀ x ∈ D.names, ∃ fb, F x = some fb ∧ FileAt w O (db + 1) x fb (D.now x) (D.safe x) (mine x D.chs)) (hw : WF D)
    (hB : Below w.heap.size w w0) (hn : n ≤ D.made) (hm : MapP Try.prog 9 W mb n (fun x => if x = s then none else F x)) (ht : w0.grownBy W (some mb)) (hnone : D.now s = none) :
    ∃ O', DiskAt W O' db (D.syncD s) ∧ Past w O W O' := by
  have hdb := hc.disk.lt
  have hmb : mb < w.heap.size := hc.lt mb (by rw [hc.omb]; simp)
  have hdbm : db ≠ mb := fun e => by
    obtain ⟨n, _, D0, hD0, _⟩ := hc.map
    have h1 := hc.disk
    unfold DB at h1
    obtain ⟨es, clock, h2, _⟩ := hD0
    rw [e, h2] at h1
    cases h1
  have hs0 := hB.size
  have hs1 : w0.heap.size ≤ W.heap.size := ht.size
  have hblk : ∀ k, k < w.heap.size → k ≠ mb → W.heap[k]? = w.heap[k]? := fun k hk hne => by
    rw [ht.block k (by omega) (fun e => hne (by simpa using e)), hB.block k hk]
  have hmem : ∀ x, x ∈ (D.syncD s).names → x ≠ s ∧ x ∈ D.names := fun x hx => by
    have hx' : x ∈ (if D.now s = none then D.names.erase s else D.names) := hx
    rw [if_pos hnone, hw.nodup.mem_erase_iff] at hx'
    exact hx'
  refine ⟨_, DiskAt.turned (fb := 0) (s := s) (F' := fun x => if x = s then none else F x) hc (fun x hx _ => hf x hx) ?_ ⟨n, hn, hm⟩ ?_ (by omega) ?_ ?_ (fun hx => absurd rfl (hmem s hx).1) (ht.os.trans hB.os) (ht.tape.trans hB.tape) (ht.output.trans hB.output)⟩
  · exact (hblk db hdb hdbm).trans hc.disk
  · intro x hx
    show (if x = s then none else F x).isSome ↔ x ∈ (if D.now s = none then D.names.erase s else D.names)
    rw [if_pos hnone, hw.nodup.mem_erase_iff]
    by_cases hxs : x = s
    · rw [if_pos hxs]; simp [hxs]
    · rw [if_neg hxs, hc.dom x hx]; simp [hxs]
  · intro k hk ho
    obtain ⟨h1, h2⟩ := not_of_owner ho
    exact hblk k hk (fun e => h1 (by rw [e]; exact hc.omb))
  · intro x hx hxs
    exact ⟨(hmem x hx).2, if_neg hxs, rfl, upd_other _ _ hxs, mine_others _ _ hxs _⟩

set_option maxRecDepth 100000 in
set_option maxHeartbeats 4000000 in
theorem sync_calls (w : World) (O : Owner) (db : Nat) (D : DS) (h : DiskAt w O db D) (hw : WF D) (s : ByteArray) (hs63 : s.size ≤ 9223372036854775807) :
    Calls Try.prog 13 #[.pointer (some ⟨db, 0, none⟩), .string s] w (SyncedD w O db D s) := by
  obtain ⟨mb, F, hc, hf⟩ := id h
  have CR := Lib.hid (refusal_calls db mb _ _ _ _ s hs63 0 w hc.disk)
  have hmbl : mb < w.heap.size := hc.lt mb (by rw [hc.omb]; simp)
  unfold SyncedD
  by_cases hr : refN D.fails s 0 = 0
  · obtain ⟨hfail, hright, _⟩ := refN_zero hr
    have hs := short_right hright
    rw [hr] at CR
    obtain ⟨n, hn, hm⟩ := hc.map
    by_cases hin : s ∈ D.names
    · have h0 : D.syncN s = 0 := by
        unfold DS.syncN; rw [if_neg (by rw [hr]; simp), if_pos hin]
      have hD : D.sync s = D.syncD s := by unfold DS.sync; rw [if_pos h0]
      rw [h0, hD]
      obtain ⟨fb, hF, hfile⟩ := hf s hin
      obtain ⟨v, hv⟩ := hfile.vals
      obtain ⟨v1, v2, v3, v4, v5, v6, v7⟩ := id hv
      obtain ⟨nt, hnt⟩ : ∃ nt, (D.now s).isSome = nt := ⟨_, rfl⟩
      have HX : Hid (∀ W, Below w.heap.size w W → W.cell? ⟨db, 0, none⟩ = some (.map (some mb)) ∧
          (Instr.lookup 62 (.map (some mb)) (.string s) false).run Try.prog W = .ok (.pointer (some ⟨fb, 0, none⟩)) W ∧
          (W.cell? ⟨fb, 0, none⟩ = some (.bool nt) ∧ W.cell? ⟨fb, 1, none⟩ = some (v.now (szO (D.now s))))) := Lib.hid fun W hB => by
        have hd := hc.disk.below hB
        have hf1 := v1.below hB
        rw [hnt] at hf1
        refine ⟨hd.cells.1.1, ?_, hf1.cells.1.1, hf1.cells.1.2.1⟩
        have := (hm.at (W' := W) (hB.block _ hmbl)).look Try.underlying9 Try.underlying62 (zero_ptr _) hs
        rwa [hF] at this
      cases nt with
      | true =>
        have HF : Hid (∀ W, Below w.heap.size w W → (W.cell? ⟨fb, 0, none⟩).isSome = true ∧ (∀ i, W.frozen? ⟨fb, i, none⟩ = false) ∧ ((∃ x, W.cell? ⟨fb, 2, none⟩ = some x) ∧ (∃ x, W.cell? ⟨fb, 3, none⟩ = some x) ∧ (∃ x, W.cell? ⟨fb, 4, none⟩ = some x) ∧ ∃ x, W.cell? ⟨fb, 5, none⟩ = some x) ∧ ∃ O', DiskAt (setFile W fb true (v.now (szO (D.now s)))) O' db (D.syncD s) ∧ Past w O (setFile W fb true (v.now (szO (D.now s)))) O') := Lib.hid fun W hB => by
          have hf1 := v1.below hB
          refine ⟨by rw [hf1.cells.1.1]; rfl, hf1.cells.2, ⟨⟨_, hf1.cells.1.2.2.1⟩, ⟨_, hf1.cells.1.2.2.2.1⟩, ⟨_, hf1.cells.1.2.2.2.2.1⟩, ⟨_, hf1.cells.1.2.2.2.2.2⟩⟩, sync_done hc (fun x hx _ => hf x hx) hB hF hv hnt⟩
        have CS : Hid (∀ W, Calls Try.prog 39 #[.agg #[.bool true, v.now (szO (D.now s))]] W (SettledOut W true (v.now (szO (D.now s))))) := Lib.hid fun W => settled_calls true _ _ _ W
        obtain ⟨ns, hns⟩ : ∃ ns, szO (D.now s) = ns := ⟨_, rfl⟩
        obtain ⟨na, nc, hvn⟩ : ∃ na nc, v.now ns = .slice na ns nc := ⟨v.na, v.nc, rfl⟩
        rw [hns, hvn] at HX HF CS
        clear v1 v2 v3 v4 v5 v6 v7 hv hfile hF hm hn hf hc h hw hs hright hfail hr h0 hD hin hmbl hnt hns hvn
        go_enter Try.func13, Try.ntmps13
        go_wp2_with fail
        refine CR.out.mono ?_
        rintro e W ⟨rfl, hB⟩
        have HB := Lib.hid hB
        obtain ⟨x0, _, x2, x3⟩ := HX.out W hB
        clear hB
        go_wp2_with (first | (refine wpList_lookup_ran (o := ⟨some 18, _, _, _, _, _⟩) rfl _ _ _ _ rfl rfl rfl (HX.out _ HB.out).2.1 ?_))
        refine (CS.out _).mono ?_
        rintro e W2 ⟨rfl, hB2⟩
        obtain ⟨y1, y2, ⟨⟨_, y3⟩, ⟨_, y4⟩, ⟨_, y5⟩, ⟨_, y6⟩⟩, hfin⟩ := HF.out W2 (HB.out.trans (hB2.mono HB.out.size))
        obtain ⟨_, _, z0, z1⟩ := HX.out W2 (HB.out.trans (hB2.mono HB.out.size))
        have HFIN := Lib.hid hfin
        have y20 := y2 0
        have y21 := y2 1
        have y22 := y2 2
        have y23 := y2 3
        have y24 := y2 4
        have y25 := y2 5
        clear hfin hB2 y1 y2
        go_wp2_with fail
        go_ret
        exact ⟨rfl, HFIN.out⟩
      | false =>
        have hnone : D.now s = none := by
          cases hq : D.now s with
          | none => rfl
          | some b => rw [hq] at hnt; cases hnt
        have HM : Hid (∀ W, Below w.heap.size w W → ∃ w', (Builtin.delete_ #[62, 9] 0 #[.map (some mb), .string s]).run Try.prog W = .ok (.tuple #[]) w' ∧ ∃ O', DiskAt w' O' db (D.syncD s) ∧ Past w O w' O') := Lib.hid fun W hB => by
          obtain ⟨w', hrun, h1, h2⟩ := (hm.at (W' := W) (hB.block _ hmbl)).drop Try.underlying9 Try.underlying62 hs 0
          exact ⟨w', hrun, sync_gone hc hf hw hB hn h1 h2.grown hnone⟩
        obtain ⟨x, hx⟩ : ∃ x, v.now (szO (D.now s)) = x := ⟨_, rfl⟩
        rw [hx] at HX
        clear v1 v2 v3 v4 v5 v6 v7 hv hfile hF hm hn hf hc h hw hs hright hfail hr h0 hD hin hmbl hnt hx
        go_enter Try.func13, Try.ntmps13
        go_wp2_with fail
        refine CR.out.mono ?_
        rintro e W ⟨rfl, hB⟩
        have HB := Lib.hid hB
        obtain ⟨x0, _, x2, x3⟩ := HX.out W hB
        obtain ⟨w', hrun, hfin⟩ := HM.out W hB
        have HFIN := Lib.hid hfin
        clear hB hfin
        go_wp2_with (first | (refine wpList_lookup_ran (o := ⟨some 18, _, _, _, _, _⟩) rfl _ _ _ _ rfl rfl rfl (HX.out _ HB.out).2.1 ?_))
        go_ret
        exact ⟨rfl, HFIN.out⟩
    · have h0 : D.syncN s = 7 := by
        unfold DS.syncN; rw [if_neg (by rw [hr]; simp), if_neg hin]
      have hD : D.sync s = D := by unfold DS.sync; rw [if_neg (by rw [h0]; decide)]
      rw [h0, hD]
      have hFs : F s = none := by
        cases hq : F s with
        | none => rfl
        | some fb => exact absurd ((hc.dom s hs).1 (by rw [hq]; rfl)) hin
      have HX : Hid (∀ W, Below w.heap.size w W → W.cell? ⟨db, 0, none⟩ = some (.map (some mb)) ∧
          (Instr.lookup 62 (.map (some mb)) (.string s) false).run Try.prog W = .ok (.pointer none) W) := Lib.hid fun W hB => by
        have hd := hc.disk.below hB
        refine ⟨hd.cells.1.1, ?_⟩
        have := (hm.at (W' := W) (hB.block _ hmbl)).look Try.underlying9 Try.underlying62 (zero_ptr _) hs
        rwa [hFs] at this
      have HK : Hid (∀ W, Below w.heap.size w W → DiskAt W O db D ∧ Past w O W O) := Lib.hid fun W hB => ⟨h.below hB, Past.of_below O hB⟩
      clear hm hn hf hc h hw hs hright hfail hr h0 hD hin hmbl hFs
      go_enter Try.func13, Try.ntmps13
      go_wp2_with fail
      refine CR.out.mono ?_
      rintro e W ⟨rfl, hB⟩
      have HB := Lib.hid hB
      obtain ⟨x0, _⟩ := HX.out W hB
      clear hB
      go_wp2_with (first | (refine wpList_lookup_ran (o := ⟨some 18, _, _, _, _, _⟩) rfl _ _ _ _ rfl rfl rfl (HX.out _ HB.out).2 ?_))
      go_ret
      exact ⟨rfl, O, HK.out _ HB.out⟩
  · have h0 : D.syncN s = refN D.fails s 0 := by
      unfold DS.syncN; rw [if_pos hr]
    have hD : D.sync s = D := by unfold DS.sync; rw [if_neg (by rw [h0]; exact hr)]
    rw [h0, hD]
    obtain ⟨n, hn⟩ : ∃ n, refN D.fails s 0 = n := ⟨_, rfl⟩
    rw [hn] at CR hr ⊢
    have hnI : ((n : Int) != 0) = true := by rw [bne_iff_ne]; omega
    have HK : Hid (∀ W, Below w.heap.size w W → DiskAt W O db D ∧ Past w O W O) := Lib.hid fun W hB => ⟨h.below hB, Past.of_below O hB⟩
    clear hn h0 hD hr h hc hf hw hmbl
    go_enter Try.func13, Try.ntmps13
    go_wp2_with fail
    refine CR.out.mono ?_
    rintro e W ⟨rfl, hB⟩
    have HB := Lib.hid hB
    clear hB
    go_wp2_with fail
    go_ret
    exact ⟨rfl, O, HK.out _ HB.out⟩

end Go.Proofs.Ytmegiilkcidanaa.Disk

/-
  Contracts of the disk's Read, Durable, Pending, Used, Fail, Limit.
-/
namespace Go.Proofs.Ytmegiilkcidanaa.Disk
open Go Go.RowKit Go.Lib Go.Proofs.Ytmegiilkcidanaa.Law

/-- What Read and Durable leave: bytes of the call's own. -/
def ReadD (w : World) (o : Option (List Nat)) (e : Ending) (W : World) : Prop := ∃ v, e = .returned (.tuple #[v, .bool o.isSome]) ∧ OwnB W w.heap.size 5 v (o.getD []) ∧ Below w.heap.size w W

theorem readD_of {w W W2 : World} {o : Option (List Nat)} {e : Ending} (hB : Below w.heap.size w W) (h : ReadOut W o.isSome (o.getD []) e W2) : ReadD w o e W2 := by
  obtain ⟨v, he, hO, hB2⟩ := h
  exact ⟨v, he, ownB_low hO hB.size, hB.trans (hB2.mono hB.size)⟩

set_option maxRecDepth 100000 in
set_option maxHeartbeats 2000000 in
theorem readD_calls (w : World) (O : Owner) (db : Nat) (D : DS) (h : DiskAt w O db D) (hw : WF D) (s : ByteArray) (hs : Short s) :
    Calls Try.prog 14 #[.pointer (some ⟨db, 0, none⟩), .string s] w (ReadD w (D.now s)) := by
  obtain ⟨v, ns, sl, cl, nt, st, ⟨h1, h2, h3, h4⟩, hb, hb2, hc⟩ := known_at h hw s hs
  obtain ⟨sh, na, nc, sa, sc, ca, cc⟩ := v
  have CK : Hid (Calls Try.prog 40 #[.pointer (some ⟨db, 0, none⟩), .string s] w (KnownOut w (.agg #[.bool nt, .slice na ns nc, .bool st, .slice sa sl sc, .bool sh, .slice ca cl cc]))) := Lib.hid hc
  have CR : Hid (∀ W, Below w.heap.size w W → Calls Try.prog 41 #[.agg #[.bool nt, .slice na ns nc]] W fun e W2 => ∃ A n c, e = .returned (.tuple #[.slice A n c, .bool nt]) ∧ Hid (ReadD w (D.now s) e W2)) := Lib.hid fun W hB => by
    have hl := hw.nowLe s
    have e := read_calls nt (.slice na ns nc) ((D.now s).getD []) (by rw [szO_getD]; omega) W (Buf.bytes (hb.below hB))
    refine e.mono ?_
    intro e W2 hr
    obtain ⟨v', rfl, hO, _⟩ := id hr
    obtain ⟨A, c, rfl⟩ := hO.bytes.form
    refine ⟨A, _, c, rfl, Lib.hid ?_⟩
    rw [h1] at hr ⊢
    exact readD_of hB hr
  have q0 := field_now nt st sh na sa ca ns nc sl sc cl cc
  clear hc hb hb2 h hw h1 h2 h3 h4
  go_enter Try.func14, Try.ntmps14
  go_wp2_with fail
  refine CK.out.mono ?_
  rintro e W ⟨rfl, hB⟩
  have cR := CR.out W hB
  have CRR := Lib.hid cR
  clear cR hB
  go_wp2_with fail
  refine CRR.out.mono ?_
  rintro e W2 ⟨A, n, c, rfl, HR⟩
  go_wp2_with fail
  go_ret2
  exact HR.out

set_option maxRecDepth 100000 in
set_option maxHeartbeats 2000000 in
theorem durableD_calls (w : World) (O : Owner) (db : Nat) (D : DS) (h : DiskAt w O db D) (hw : WF D) (s : ByteArray) (hs : Short s) :
    Calls Try.prog 16 #[.pointer (some ⟨db, 0, none⟩), .string s] w (ReadD w (D.safe s)) := by
  obtain ⟨v, ns, sl, cl, nt, st, ⟨h1, h2, h3, h4⟩, hb, hb2, hc⟩ := known_at h hw s hs
  obtain ⟨sh, na, nc, sa, sc, ca, cc⟩ := v
  have CK : Hid (Calls Try.prog 40 #[.pointer (some ⟨db, 0, none⟩), .string s] w (KnownOut w (.agg #[.bool nt, .slice na ns nc, .bool st, .slice sa sl sc, .bool sh, .slice ca cl cc]))) := Lib.hid hc
  have CR : Hid (∀ W, Below w.heap.size w W → Calls Try.prog 41 #[.agg #[.bool st, .slice sa sl sc]] W fun e W2 => ∃ A n c, e = .returned (.tuple #[.slice A n c, .bool st]) ∧ Hid (ReadD w (D.safe s) e W2)) := Lib.hid fun W hB => by
    have hl := hw.safeLe s
    have e := read_calls st (.slice sa sl sc) ((D.safe s).getD []) (by rw [szO_getD]; omega) W (Buf.bytes (hb2.below hB))
    refine e.mono ?_
    intro e W2 hr
    obtain ⟨v', rfl, hO, _⟩ := id hr
    obtain ⟨A, c, rfl⟩ := hO.bytes.form
    refine ⟨A, _, c, rfl, Lib.hid ?_⟩
    rw [h3] at hr ⊢
    exact readD_of hB hr
  have q0 := field_safe nt st sh na sa ca ns nc sl sc cl cc
  clear hc hb hb2 h hw h1 h2 h3 h4
  go_enter Try.func16, Try.ntmps16
  go_wp2_with fail
  refine CK.out.mono ?_
  rintro e W ⟨rfl, hB⟩
  have cR := CR.out W hB
  have CRR := Lib.hid cR
  clear cR hB
  go_wp2_with fail
  refine CRR.out.mono ?_
  rintro e W2 ⟨A, n, c, rfl, HR⟩
  go_wp2_with fail
  go_ret2
  exact HR.out

/-- How many changes the names to come have. -/
def chCount (names : List ByteArray) (l : List (ByteArray × Chg)) : Nat := (names.map fun s => (mine s l).length).sum
theorem count_perm (l : List (ByteArray × Chg)) {a b : List ByteArray} (h : a.Perm b) : chCount a l = chCount b l := by
  unfold chCount; exact (h.map _).sum_nat
theorem mine_cons (s : ByteArray) (x : ByteArray × Chg) (l : List (ByteArray × Chg)) : mine s (x :: l) = (if x.1 = s then [x.2] else []) ++ mine s l := by
  unfold mine
  by_cases h : x.1 = s
  · rw [List.filter_cons_of_pos (by simpa using h)]; simp [h]
  · rw [List.filter_cons_of_neg (by simpa using h)]; simp [h]
theorem count_cons_out (x : ByteArray × Chg) (l : List (ByteArray × Chg)) : ∀ names : List ByteArray, x.1 ∉ names → chCount names (x :: l) = chCount names l
  | [], _ => rfl
  | a :: r, h => by
    have h1 : x.1 ≠ a := fun e => h (by simp [e])
    have := count_cons_out x l r (fun e => h (List.mem_cons_of_mem _ e))
    unfold chCount at this ⊢
    rw [List.map_cons, List.map_cons, List.sum_cons, List.sum_cons, this, mine_cons, if_neg h1]
    simp
theorem count_cons_in (x : ByteArray × Chg) (l : List (ByteArray × Chg)) : ∀ names : List ByteArray, names.Nodup → x.1 ∈ names → chCount names (x :: l) = chCount names l + 1
  | [], _, h => by simp at h
  | a :: r, hn, h => by
    rw [List.nodup_cons] at hn
    by_cases ha : x.1 = a
    · have := count_cons_out x l r (by rw [ha]; exact hn.1)
      unfold chCount at this ⊢
      rw [List.map_cons, List.map_cons, List.sum_cons, List.sum_cons, this, mine_cons, if_pos ha]
      simp; omega
    · have h2 : x.1 ∈ r := by
        rcases List.mem_cons.1 h with e | e
        · exact absurd e ha
        · exact e
      have := count_cons_in x l r hn.2 h2
      unfold chCount at this ⊢
      rw [List.map_cons, List.map_cons, List.sum_cons, List.sum_cons, this, mine_cons, if_neg ha]
      simp; omega
theorem count_all (names : List ByteArray) (hn : names.Nodup) : ∀ l : List (ByteArray × Chg), (∀ x ∈ l, x.1 ∈ names) → chCount names l = l.length
  | [], _ => by
    unfold chCount
    have : (names.map fun s => (mine s ([] : List (ByteArray × Chg))).length) = names.map fun _ => 0 := rfl
    rw [this]
    clear this hn
    induction names with
    | nil => rfl
    | cons a r ih => simpa using ih
  | x :: l, h => by
    rw [count_cons_in x l names hn (h x (by simp)), count_all names hn l (fun y hy => h y (List.mem_cons_of_mem _ hy))]; rfl
theorem WF.countAll {D : DS} (h : WF D) : chCount D.names D.chs = D.chs.length := count_all _ h.nodup _ fun x hx => (h.names x.1).2 (.inr (.inr ⟨x.2, hx⟩))

end Go.Proofs.Ytmegiilkcidanaa.Disk

/-
  Contract of the disk's Pending.
-/
namespace Go.Proofs.Ytmegiilkcidanaa.Disk
open Go Go.RowKit Go.Lib Go.Proofs.Ytmegiilkcidanaa.Law

/-- Where a name's file lies. -/
theorem DiskAt.files {W : World} {O : Owner} {db : Nat} {D : DS} {F : ByteArray → Option Nat} (h : ∀ s ∈ D.names, ∃ fb, F s = some fb ∧ FileAt W O (db + 1) s fb (D.now s) (D.safe s) (mine s D.chs)) {s : ByteArray} (hs : s ∈ D.names) {g : Nat} (hF : F s = some g) :
    ∃ v : KV, FileV W O (db + 1) s g (D.now s) (D.safe s) (mine s D.chs) v := by
  obtain ⟨fb, h1, h2⟩ := h s hs
  rw [hF] at h1
  obtain rfl := Option.some.inj h1
  exact h2.vals

theorem chCount_erase (l : List (ByteArray × Chg)) {names : List ByteArray} {s : ByteArray} (hs : s ∈ names) : chCount names l = (mine s l).length + chCount (names.erase s) l := by
  rw [count_perm l (List.perm_cons_erase hs)]
  unfold chCount
  rw [List.map_cons, List.sum_cons]

set_option maxRecDepth 100000 in
set_option maxHeartbeats 2000000 in
theorem pending_calls (w : World) (O : Owner) (db : Nat) (D : DS) (h : DiskAt w O db D) (hw : WF D) (hmade : D.made ≤ 4294967296) :
    Calls Try.prog 28 #[.pointer (some ⟨db, 0, none⟩)] w fun e W => e = .returned (.int .i64 (D.chs.length : Nat)) ∧ Below w.heap.size w W := by
  obtain ⟨mb, F, hc, hf⟩ := id h
  obtain ⟨n, hn, hm⟩ := hc.map
  have hdb := hc.disk.lt
  have hmbl := hm.lt
  obtain ⟨w', cnt, hrun, hR, hG, hS⟩ := hm.rng Try.underlying9 Try.underlying62 D.names hw.nodup (fun s hs => hw.short hs) hc.dom
  have hcount := hw.countAll
  have hlen := hw.len
  obtain ⟨⟨d0, _⟩, _⟩ := hc.disk.cells
  have HF : Hid (∀ s ∈ D.names, ∀ g, F s = some g → g < w.heap.size ∧ ∃ A c, w.cell? ⟨g, 5, none⟩ = some (.slice A (mine s D.chs).length c)) := Lib.hid fun s hs g hg => by
    obtain ⟨v, hv⟩ := DiskAt.files hf hs hg
    exact ⟨hv.1.lt, _, _, hv.1.cells.1.2.2.2.2.2⟩
  obtain ⟨m, hm2⟩ : ∃ m, D.chs.length = m := ⟨_, rfl⟩
  rw [hm2] at hcount hlen ⊢
  have HRUN := Lib.hid hrun
  have HR := Lib.hid hR
  have hB0 : Below w.heap.size w w' := ⟨hG.os, hG.tape, hG.output, hG.size, fun k hk => hG.block k hk (by simp)⟩
  have HB0 := Lib.hid hB0
  have HCO := Lib.hid hcount
  have HWN := Lib.hid hw.nodup
  clear h hw hc hf hm hrun hR hG hB0 hcount
  go_enter Try.func28, Try.ntmps28
  go_wp2_with (first | (at_range; refine wpList_range_ran rfl _ _ rfl rfl HRUN.out ?_))
  go_frame
  go_loopw [3] (fun i wr => ∃ (k : Nat) (rest : List ByteArray) (c : Nat), i = .int .i64 k ∧ (∀ s ∈ rest, s ∈ D.names) ∧ Rng Try.prog 9 wr mb w.heap.size n F rest c ∧ Hid (k + chCount rest D.chs = m) ∧ Hid (Below w.heap.size w wr)) (fun _ wr => wr.rangeLeft mb w.heap.size)
  case atStart => exact ⟨0, D.names, cnt, rfl, fun _ h => h, HR.out, Lib.hid (by have := HCO.out; omega), HB0⟩
  case round =>
    obtain ⟨k, rest, c, rfl, hsub, hrng, HK, HB⟩ := hrel
    have hleft := hrng.left
    rcases hrng.next Try.underlying9 0 with ⟨rfl, hnx⟩ | ⟨s, g, w1, c1, hs, hF, hnx, hrng1, hlt, hg1, hs1, hen⟩
    · have HNX := Lib.hid hnx
      have hk : k = m := by have := HK.out; unfold chCount at this; simpa using this
      subst hk
      clear hnx hrng hleft
      go_wp2_with (first | (at_next; refine wpList_next_ran rfl _ _ rfl rfl HNX.out ?_))
      go_ret
      exact ⟨rfl, HB.out⟩
    · have HNX := Lib.hid hnx
      have HEN := Lib.hid hen
      obtain ⟨hgl, A, cc, hcell⟩ := HF.out s (hsub s hs) g hF
      have hB1 : Below w.heap.size w w1 := HB.out.grown hg1 HB.out.size (fun k e => by cases e; exact Nat.le_refl _)
      have hcell1 : w1.cell? ⟨g, 5, none⟩ = some (.slice A (mine s D.chs).length cc) := (hB1.cell (p := ⟨g, 5, none⟩) hgl).trans hcell
      have hke := chCount_erase D.chs hs
      have hkk := HK.out
      obtain ⟨l, hl⟩ : ∃ l, (mine s D.chs).length = l := ⟨_, rfl⟩
      rw [hl] at hcell1 hke
      have hkl : k + l ≤ 4294967296 := by omega
      have HR1 := Lib.hid hrng1
      have HK1 : Hid (k + l + chCount (rest.erase s) D.chs = m) := Lib.hid (by omega)
      have HB1 := Lib.hid hB1
      have hl1 := hrng1.left
      clear hnx hen hrng hrng1 hcell hke hkk hl hB1 hg1 HK HB
      go_wp2_with (first | (at_next; refine wpList_next_ran rfl _ _ rfl rfl HNX.out ?_) | (refine wpList_entry_ran (o := ⟨some 15, _, _, _, _, _⟩) rfl _ rfl rfl HEN.out ?_))
      go_roundw
      case rel => exact ⟨k + l, rest.erase s, c1, by go_num, fun x hx => hsub x (List.mem_of_mem_erase hx), HR1.out, HK1, HB1⟩
      case measure => rw [hleft, hl1]; exact hlt

end Go.Proofs.Ytmegiilkcidanaa.Disk

/-
  Files and their changes as a row of the call's own: appended to, sorted by number.
-/
namespace Go.Proofs.Ytmegiilkcidanaa.Disk
open Go Go.RowKit Go.Lib Go.Sort Go.Proofs.Ytmegiilkcidanaa.Law

/-- Files and changes as cells. -/
def flatX : List (Nat × Chg) → List Value
  | [] => []
  | x :: r => .pointer (some ⟨x.1, 0, none⟩) :: .int .i64 (x.2.n : Nat) :: .int .i64 (x.2.kind : Nat) :: .int .i64 (x.2.pos : Nat) :: .string x.2.s :: flatX r
theorem flatX_length : ∀ l : List (Nat × Chg), (flatX l).length = l.length * 5
  | [] => rfl
  | x :: r => by simp only [flatX, List.length_cons, flatX_length r]; omega
theorem flatX_append : ∀ a b : List (Nat × Chg), flatX (a ++ b) = flatX a ++ flatX b
  | [], b => by simp [flatX]
  | x :: a, b => by simp only [List.cons_append, flatX, flatX_append a b]
theorem flatX_one : ∀ l : List (Nat × Chg), ∀ u ∈ flatX l, u.oneCell' = true
  | [], u, h => by simp [flatX] at h
  | x :: r, u, h => by
    simp only [flatX, List.mem_cons] at h
    rcases h with rfl | rfl | rfl | rfl | rfl | h
    · rfl
    · rfl
    · rfl
    · rfl
    · rfl
    · exact flatX_one r u h
theorem flatX_get : ∀ (l : List (Nat × Chg)) (t : Nat), t < l.length * 5 → (flatX l)[t]? = some ((encX (l.toArray[t / 5]!))[t % 5]!)
  | [], t, h => by simp at h
  | x :: r, t, h => by
    by_cases h5 : t < 5
    · have e1 : t / 5 = 0 := by omega
      have e2 : t % 5 = t := by omega
      rw [e1, e2]
      match t, h5 with
      | 0, _ => rfl
      | 1, _ => rfl
      | 2, _ => rfl
      | 3, _ => rfl
      | 4, _ => rfl
    · obtain ⟨u, rfl⟩ : ∃ u, t = u + 5 := ⟨t - 5, by omega⟩
      have e1 : (u + 5) / 5 = u / 5 + 1 := by omega
      have e2 : (u + 5) % 5 = u % 5 := by omega
      rw [e1, e2]
      have := flatX_get r u (by simp only [List.length_cons] at h; omega)
      have e3 : (x :: r).toArray[u / 5 + 1]! = r.toArray[u / 5]! := by simp
      rw [e3]
      show (flatX r)[u]? = _
      exact this
theorem flatK_toList (l : List (Nat × Chg)) : (flatK encX 5 l.toArray).toList = flatX l := by
  apply List.ext_getElem?
  intro t
  by_cases h : t < l.length * 5
  · rw [flatX_get l t h]
    have hs : t < (flatK encX 5 l.toArray).size := by rw [size_flatK]; simpa using h
    have := get_flatK encX 5 l.toArray t (by simpa using h)
    rw [getElem!_pos _ t hs] at this
    rw [Array.getElem?_toList, Array.getElem?_eq_getElem hs, this]
  · rw [List.getElem?_eq_none (by rw [Array.length_toList, size_flatK]; simp; omega), List.getElem?_eq_none (by rw [flatX_length]; omega)]

/-- A row of files and changes. -/
def OwnX (W : World) (base : Nat) (v : Value) (l : List (Nat × Chg)) : Prop := W.ownsRow base 104 5 v l.length (flatX l)
theorem OwnX.nil (W : World) (base : Nat) : OwnX W base (.slice none 0 0) [] := ⟨rfl, .inl ⟨rfl, rfl⟩⟩
theorem OwnX.own {W : World} {base : Nat} {v : Value} {l : List (Nat × Chg)} (h : OwnX W base v l) : ∀ g, v.ownBlock = some g → base ≤ g ∧ g < W.heap.size := fun g hg => World.ownsRow.lt h g hg
theorem OwnX.form {W : World} {base : Nat} {v : Value} {l : List (Nat × Chg)} (h : OwnX W base v l) : ∃ A cap, v = .slice A l.length cap := by
  rcases h.2 with ⟨rfl, h0⟩ | ⟨g, cap, cur, rfl, _⟩
  · exact ⟨none, 0, by rw [h0]⟩
  · exact ⟨_, _, rfl⟩
theorem OwnX.keep {W W' : World} {base : Nat} {v : Value} {l : List (Nat × Chg)} (h : OwnX W base v l) (hb : ∀ g, v.ownBlock = some g → W'.heap[g]? = W.heap[g]?) : OwnX W' base v l := by
  refine ⟨h.1, ?_⟩
  rcases h.2 with h0 | ⟨g, cap, cur, rfl, h1, h2, h3⟩
  · exact .inl h0
  · exact .inr ⟨g, cap, cur, rfl, h1, (hb g rfl).trans h2, h3⟩
/-- The row's block is a row of such cells. -/
theorem OwnX.tag {W : World} {base : Nat} {v : Value} {l : List (Nat × Chg)} (h : OwnX W base v l) {g : Nat} (hg : v.ownBlock = some g) : ∃ cur, W.heap[g]? = some (.cells cur 104 (0, 0)) := by
  rcases h.2 with ⟨rfl, _⟩ | ⟨g', cap, cur, rfl, _, h2, _⟩
  · cases hg
  · simp only [Value.ownBlock, Option.some.injEq] at hg
    subst hg
    exact ⟨cur, h2⟩

theorem info_ofFile : (Try.prog.info? 104).map (fun i => (i.zero, i.size, i.bytes)) = some (some (.agg #[.pointer none, .int .i64 0, .int .i64 0, .int .i64 0, .string ⟨#[]⟩]), 5, 48) := by kernel_rfl

theorem OwnX.append {W : World} {base : Nat} {v : Value} {l : List (Nat × Chg)} (h : OwnX W base v l) (hbase : base ≤ W.heap.size) (x : Nat × Chg) (ty : TypeId) (b : Nat) {tg : TypeId}
    (hb : W.heap[b]? = some (.cells #[.pointer (some ⟨x.1, 0, none⟩), .int .i64 (x.2.n : Nat), .int .i64 (x.2.kind : Nat), .int .i64 (x.2.pos : Nat), .string x.2.s] tg (0, 0))) (hroom : (l.length + 1) * 48 ≤ 140737488355328) :
    ∃ v' W', (Builtin.append_ #[102, 102] ty #[v, .slice (some ⟨b, 0, none⟩) 1 1]).run Try.prog W = .ok v' W' ∧ OwnX W' base v' (l ++ [x]) ∧ W.grownBy W' v.ownBlock ∧ (v'.ownBlock = v.ownBlock ∨ v'.ownBlock = some W.heap.size) := by
  obtain ⟨i0, hi, hz0, hz1, hz2⟩ := info_parts info_ofFile
  obtain ⟨v', W', hrun, h2, h3, _, h5⟩ := run_append_own_at (P := Try.prog) W base 102 ty 104 i0 _ 5 48 Try.underlying102 hi hz0 hz1 hz2 rfl (by decide) v l.length (flatX l) h ⟨b, 0, none⟩ 1 1 (flatX [x]) (flatX_length [x])
    (fun j u hu => by
      rw [Addr.add_lit]
      match j, hu with
      | 0, hu => simp [flatX] at hu; subst hu; simp [World.cell?, hb]
      | 1, hu => simp [flatX] at hu; subst hu; simp [World.cell?, hb]
      | 2, hu => simp [flatX] at hu; subst hu; simp [World.cell?, hb]
      | 3, hu => simp [flatX] at hu; subst hu; simp [World.cell?, hb]
      | 4, hu => simp [flatX] at hu; subst hu; simp [World.cell?, hb]
      | j + 5, hu => simp [flatX] at hu) (flatX_one [x]) (by simp only [maxLen]; omega) hroom hbase
  refine ⟨v', W', hrun, ?_, h3, h5⟩
  show W'.ownsRow _ _ _ _ _ _
  rw [List.length_append, flatX_append]
  exact h2

theorem take_putCells_id (cur F : Array Value) (h : F.size ≤ cur.size) : (putCells id 0 F cur).toList.take F.size = F.toList := by
  apply List.ext_getElem?
  intro j
  by_cases hj : j < F.size
  · rw [List.getElem?_take_of_lt hj, Array.getElem?_toList]
    simp [putCells, hj, show j < cur.size by omega]
  · rw [List.getElem?_take_eq_none (by omega), List.getElem?_eq_none (by simp; omega)]

/-- A row that is sorted by number: the same ones, in their order. -/
theorem OwnX.sort {W : World} {base : Nat} {v : Value} {l m : List (Nat × Chg)} (h : OwnX W base v l) (hp : l.Perm m) (hm : m.Pairwise fun a b => a.2.n < b.2.n) (hlen : l.length ≤ 4294967296) :
    Calls Try.prog 58 #[v, .func (.func 59) #[] #[]] W fun e W' => e = .returned (.tuple #[]) ∧ OwnX W' base v m ∧ W.grownBy W' v.ownBlock := by
  by_cases h0 : l.length = 0
  · obtain ⟨A, cap, rfl⟩ := h.form
    have hl : l = [] := List.eq_nil_of_length_eq_zero h0
    subst hl
    have hm0 : m = [] := by simpa using hp.symm.eq_nil
    subst hm0
    have hcon := AnyF.slices_SortFunc_none (P := Try.prog) (ρ := _) { Try.sortOfFile with } A cap (.func (.func 59) #[] #[]) W
    change Calls Try.prog 58 _ _ _ at hcon
    refine hcon.mono ?_
    rintro e W' ⟨rfl, rfl⟩
    exact ⟨rfl, h, rfl, rfl, rfl, Nat.le_refl _, fun _ _ _ => rfl⟩
  · rcases h.2 with ⟨_, h1⟩ | ⟨g, cap, cur, rfl, hbg, hg, hn, hcm, hcs, ht⟩
    · exact absurd h1 h0
    · have hgl := (Array.getElem?_eq_some_iff.1 hg).1
      have hH : HoldsK encX 5 W g 0 l.toArray := by
        intro t ht'
        have ht2 : t < l.length * 5 := by simpa using ht'
        refine ⟨?_, by simp [World.frozen?, hg]⟩
        have h1 : (cur.toList.take (l.length * 5))[t]? = (flatX l)[t]? := by rw [ht]
        rw [List.getElem?_take_of_lt ht2, ← flatK_toList, Array.getElem?_toList, Array.getElem?_toList] at h1
        have hs : t < (flatK encX 5 l.toArray).size := ht'
        simp only [World.cell?, hg, Nat.zero_add, Option.isSome_none, Bool.false_eq_true, if_false]
        rw [h1, Array.getElem?_eq_getElem hs, getElem!_pos _ t hs]
        rfl
      have hcon := sortX_calls g 0 cap l.toArray W hH hgl (by simp; omega)
      simp only [List.size_toArray] at hcon
      refine hcon.mono ?_
      rintro e W' ⟨rfl, d', n, os, hperm, hsort, rfl⟩
      obtain ⟨hsz, _, hpp⟩ := hperm
      have hsz' : d'.size = l.length := by simpa using hsz
      have e1 : d'.extract 0 l.length = d' := by rw [← hsz']; simp
      have e2 : l.toArray.extract 0 l.length = l.toArray := by
        have : l.length = l.toArray.size := by simp
        rw [this]; simp
      rw [e1, e2] at hpp
      have hpm : d'.toList.Perm m := hpp.trans hp
      have hsorted : d'.toList.Pairwise fun a b => a.2.n ≤ b.2.n := by
        rw [List.pairwise_iff_getElem]
        intro i j hi hj hij
        have := hsort i j (Nat.zero_le _) hij (by rw [Array.length_toList] at hj; omega)
        rw [ltX, getElem!_pos d' i (by rw [Array.length_toList] at hi; exact hi), getElem!_pos d' j (by rw [Array.length_toList] at hj; exact hj)] at this
        simp only [decide_eq_false_iff_not, Nat.not_lt] at this
        simpa using this
      have hdm : d'.toList = m := by
        refine List.Perm.eq_of_pairwise (le := fun a b => a.2.n ≤ b.2.n) ?_ hsorted (hm.imp fun h => Nat.le_of_lt h) hpm
        intro a b ha hb h1 h2
        have ha' : a ∈ m := hpm.subset ha
        have he : a.2.n = b.2.n := Nat.le_antisymm h1 h2
        by_cases hab : a = b
        · exact hab
        · exfalso
          obtain ⟨i, hi, hia⟩ := List.getElem_of_mem ha'
          obtain ⟨j, hj, hjb⟩ := List.getElem_of_mem hb
          rw [List.pairwise_iff_getElem] at hm
          rcases Nat.lt_trichotomy i j with h | h | h
          · have := hm i j hi hj h
            rw [hia, hjb] at this; omega
          · subst h
            exact hab (hia.symm.trans hjb)
          · have := hm j i hj hi h
            rw [hia, hjb] at this; omega
      have hml : m.length = l.length := hp.length_eq.symm
      have hda : d' = m.toArray := by rw [← hdm]
      refine ⟨rfl, ⟨by rw [flatX_length], .inr ⟨g, cap, putCells id 0 (flatK encX 5 d') cur, by rw [hml], hbg, ?_, by omega, hcm, by simp [putCells, hcs], ?_⟩⟩, rfl, rfl, rfl, ?_, fun k hk hne => ?_⟩
      · unfold sortWorldK putRowK
        rw [heap_grow_old _ _ (by simp [putRow, mapBlock, Sort.ahead]; exact hgl)]
        simp [putRow, mapBlock, Sort.ahead, Array.getElem?_modify, hg, onCells]
      · have hFs : (flatK encX 5 d').size = m.length * 5 := by rw [size_flatK, hsz', hml]
        rw [← hFs, take_putCells_id _ _ (by rw [hFs, hcs, hml]; exact Nat.mul_le_mul_right 5 hn), hda, flatK_toList]
      · simp [sortWorldK, putRowK, putRow, mapBlock, Sort.ahead, grow]
      · unfold sortWorldK putRowK
        rw [heap_grow_old _ _ (by simp [putRow, mapBlock, Sort.ahead]; exact hk)]
        have : g ≠ k := fun e => hne (by simp [Value.ownBlock, e])
        simp [putRow, mapBlock, Sort.ahead, Array.getElem?_modify, this]

end Go.Proofs.Ytmegiilkcidanaa.Disk
