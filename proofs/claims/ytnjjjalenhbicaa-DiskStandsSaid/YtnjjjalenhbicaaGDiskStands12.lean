/-
  Put together out of texts of one chain: what they hold stands ahead of each.
-/
import Derived.Test.YtnjjjalenhbicaaGDiskStands11
/-
  Contract of the disk's Write: a write that is carried out.
-/
namespace Go.Proofs.Ytnjjjalenhbicaa.Disk
open Go Go.RowKit Go.Lib Go.Proofs.Ytnjjjalenhbicaa.Law

/-- file's write, whatever is shared. -/
theorem fwrite_calls (fb base : Nat) (nt st sh : Bool) (na sa ca : Option Addr) (nc sc cl cc : Nat) (nbs sbs : List Nat) (c : Chg) (w : World)
    (hf : FB w fb nt (.slice na nbs.length nc) st (.slice sa sbs.length sc) sh (.slice ca cl cc)) (hn : Buf w base 5 (.slice na nbs.length nc) nbs) (hs : Buf w base 5 (.slice sa sbs.length sc) sbs) (hbase : base ≤ w.heap.size)
    (hshare : Share sh (.slice na nbs.length nc) (.slice sa sbs.length sc) nbs.length sbs.length) (hk : c.pos ≤ nbs.length) (hroom : nbs.length + c.s.size ≤ 140737488351232) :
    Calls Try.prog 47 #[.pointer (some ⟨fb, 0, none⟩), chgV c] w (Wrote w fb base st (.slice na nbs.length nc) (.slice sa sbs.length sc) (.slice ca cl cc) nbs sbs c) := by
  by_cases h : sh = true ∧ c.pos < nbs.length
  · obtain ⟨rfl, h2⟩ := h
    exact write_copy fb base nt st na sa ca nc sc cl cc nbs sbs c w hf hn hs hbase h2 hroom
  · exact write_plain fb base nt st sh na sa ca nc sc cl cc nbs sbs c w hf hn hs hbase hshare hk hroom (fun e => by
      have : ¬ c.pos < nbs.length := fun h2 => h ⟨e, h2⟩
      omega)

/-- A change in a box. -/
def BoxC (W : World) (b : Nat) (c : Chg) : Prop := W.heap[b]? = some (.cells #[.int .i64 (c.n : Nat), .int .i64 (c.kind : Nat), .int .i64 (c.pos : Nat), .string c.s] 86 (0, 0))
theorem BoxC.cells {W : World} {b : Nat} {c : Chg} (h : BoxC W b c) : W.cell? ⟨b, 0, none⟩ = some (.int .i64 (c.n : Nat)) ∧ W.cell? ⟨b, 1, none⟩ = some (.int .i64 (c.kind : Nat)) ∧ W.cell? ⟨b, 2, none⟩ = some (.int .i64 (c.pos : Nat)) ∧ W.cell? ⟨b, 3, none⟩ = some (.string c.s) := by
  unfold BoxC at h
  refine ⟨?_, ?_, ?_, ?_⟩ <;> simp [World.cell?, h]

set_option maxHeartbeats 1000000 in
/-- The file's write, then the note of it. -/
theorem write_chain {w w0 : World} {O : Owner} {db mb fb kN b : Nat} {D : DS} {F F' : ByteArray → Option Nat} {s d : ByteArray} {v : KV} (hmade : D.made ≤ 4294967296)
    (hc : Core w O db mb D F) (hf : ∀ x ∈ D.names, x ≠ s → ∃ fb, F x = some fb ∧ FileAt w O (db + 1) x fb (D.now x) (D.safe x) (mine x D.chs)) (hs : Short s)
    (h0 : ∀ k, k < w.heap.size → k ≠ mb → w0.heap[k]? = w.heap[k]?) (h0s : w.heap.size ≤ w0.heap.size) (h0o : w0.os = w.os ∧ w0.tape = w.tape ∧ w0.output = w.output) (hm0 : ∃ n, n ≤ D.made + 1 ∧ MapP Try.prog 9 w0 mb n F')
    (hFs : F' s = some fb) (hFo : ∀ x, x ≠ s → F' x = F x) (hv : FileV w0 (own O w.heap.size w0.heap.size s) (db + 1) s fb (D.now s) (D.safe s) (mine s D.chs) v)
    (hk : kN ≤ szO (D.now s)) (hroom : szO (D.now s) + d.size ≤ 140737488351232) (hch : (mine s D.chs).length ≤ D.made) (hbox : BoxC w0 b ⟨0, 0, kN, d⟩) (hb : w.heap.size ≤ b) :
    Calls Try.prog 47 #[.pointer (some ⟨fb, 0, none⟩), .agg #[.int .i64 0, .int .i64 0, .int .i64 (kN : Nat), .string d]] w0 fun e W3 => e = .returned (.tuple #[]) ∧
      (W3.cell? ⟨b, 0, none⟩ = some (.int .i64 0) ∧ W3.cell? ⟨b, 1, none⟩ = some (.int .i64 0) ∧ W3.cell? ⟨b, 2, none⟩ = some (.int .i64 (kN : Nat)) ∧ W3.cell? ⟨b, 3, none⟩ = some (.string d)) ∧
      Hid (Calls Try.prog 48 #[.pointer (some ⟨db, 0, none⟩), .pointer (some ⟨fb, 0, none⟩), .agg #[.int .i64 0, .int .i64 0, .int .i64 (kN : Nat), .string d]] W3 fun e W4 => e = .returned (.tuple #[]) ∧
        (W4.cell? ⟨db, 2, none⟩ = some (.int .i64 (D.used : Int)) ∧ W4.frozen? ⟨db, 2, none⟩ = false) ∧
        Hid (∃ O', DiskAt (W4.setCell ⟨db, 2, none⟩ (.int .i64 ((D.used + (kN + d.size - szO (D.now s)) : Nat) : Int))) O' db (D.wrote s kN d) ∧ Past w O (W4.setCell ⟨db, 2, none⟩ (.int .i64 ((D.used + (kN + d.size - szO (D.now s)) : Nat) : Int))) O')) := by
  have hdb := hc.disk.lt
  have hmb : mb < w.heap.size := hc.lt mb (by rw [hc.omb]; simp)
  obtain ⟨v1, v2, v3, v4, v5, v6, v7⟩ := id hv
  have hO0 : ∀ k, k < w.heap.size → own O w.heap.size w0.heap.size s k = O k := fun k hk => own_old hk
  have hdbf : db ≠ fb := fun e => by
    have := v6; rw [← e, hO0 db hdb, hc.odb] at this; cases this
  have hdbm : db ≠ mb := fun e => by
    obtain ⟨n, _, D0, hD0, _⟩ := hc.map
    have h1 := hc.disk
    unfold DB at h1
    obtain ⟨es, clock, h2, _⟩ := hD0
    rw [e, h2] at h1
    cases h1
  have hdbn : (v.now (szO (D.now s))).ownBlock ≠ some db := fun e => by
    have := v7 db (.inl e); rw [hO0 db hdb, hc.odb] at this; cases this
  have hd0 : DB w0 db mb (D.room : Int) (D.used : Int) (D.made : Int) D.fails := (h0 db hdb hdbm).trans hc.disk
  have hbf : b ≠ fb := fun e => by
    subst e
    unfold BoxC at hbox; unfold FB at v1
    rw [hbox] at v1
    have := Option.some.inj v1
    injection this with _ h2 _
    exact absurd h2 (by decide)
  have hbn : (v.now (szO (D.now s))).ownBlock ≠ some b := fun e => by
    rcases v2.2 with ⟨h1, _⟩ | ⟨g, cap, cur, h1, _, h2, _⟩
    · rw [h1] at e; cases e
    · rw [h1] at e
      have : g = b := by simpa [Value.ownBlock] using e
      subst this
      unfold BoxC at hbox
      rw [hbox] at h2
      have := Option.some.inj h2
      injection this with _ h2 _
      exact absurd h2 (by decide)
  have hcf : ∀ g, (v.chs (mine s D.chs).length).ownBlock = some g → g ≠ fb := fun g hg e => by
    subst e
    rcases v5.2 with ⟨h1, _⟩ | ⟨g1, cap, cur, h1, _, h2, _⟩
    · rw [h1] at hg; cases hg
    · rw [h1] at hg
      have : g1 = g := by simpa [Value.ownBlock] using hg
      subst this
      unfold FB at v1
      rw [v1] at h2
      have := Option.some.inj h2
      injection this with _ h2 _
      exact absurd h2 (by decide)
  have hcn : ∀ g, (v.chs (mine s D.chs).length).ownBlock = some g → (v.now (szO (D.now s))).ownBlock ≠ some g := fun g hg e => by
    rcases v2.2 with ⟨h1, _⟩ | ⟨g1, cap, cur, h1, _, h2, _⟩
    · rw [h1] at e; cases e
    · rcases v5.2 with ⟨h3, _⟩ | ⟨g2, cap2, cur2, h3, _, h4, _⟩
      · rw [h3] at hg; cases hg
      · rw [h1] at e; rw [h3] at hg
        have e1 : g1 = g := by simpa [Value.ownBlock] using e
        have e2 : g2 = g := by simpa [Value.ownBlock] using hg
        subst e1 e2
        rw [h2] at h4
        have := Option.some.inj h4
        injection this with _ h5 _
        exact absurd h5 (by decide)
  have cW := fwrite_calls fb (db + 1) (D.now s).isSome (D.safe s).isSome v.sh v.na v.sa v.ca v.nc v.sc (mine s D.chs).length v.cc ((D.now s).getD []) ((D.safe s).getD []) ⟨0, 0, kN, d⟩ w0
    (by rw [szO_getD, szO_getD]; exact v1) (by rw [szO_getD]; exact v2) (by rw [szO_getD]; exact v3) (by omega) (by rw [szO_getD, szO_getD]; exact v4) (by rw [szO_getD]; exact hk) (by rw [szO_getD]; exact hroom)
  rw [szO_getD, szO_getD] at cW
  refine cW.mono ?_
  intro e W3 hW
  obtain ⟨nv', sh', rfl, x1, x2, x3, x4, x5, x6, x7, x8, x9, x10⟩ := id hW
  have hb3 : BoxC W3 b ⟨0, 0, kN, d⟩ := (x10 b (Array.getElem?_eq_some_iff.1 (show w0.heap[b]? = _ from hbox)).1 hbf hbn).trans hbox
  refine ⟨rfl, hb3.cells, Lib.hid ?_⟩
  have hd3 : DB W3 db mb (D.room : Int) (D.used : Int) (D.made : Int) D.fails := (x10 db (by omega) hdbf hdbn).trans hd0
  have hC3 : OwnC W3 (db + 1) (v.chs (mine s D.chs).length) (mine s D.chs) := v5.keep fun g hg => x10 g (v5.own g hg).2 (hcf g hg) (hcn g hg)
  obtain ⟨na', nc', rfl, _⟩ := x2.form
  have cN := note_calls db mb fb (D.room : Int) (D.used : Int) D.made (by omega) D.fails true (D.safe s).isSome sh' na' v.sa v.ca _ nc' (szO (D.safe s)) v.sc (mine s D.chs).length v.cc (mine s D.chs) ⟨0, 0, kN, d⟩ (db + 1) W3 hd3 x1 hdbf hC3 (by omega) (Nat.lt_succ_self _) hcf (by omega)
  refine cN.mono ?_
  rintro e W4 ⟨rfl, hN⟩
  have hd4 : DB W4 db mb (D.room : Int) (D.used : Int) ((D.made + 1 : Nat) : Int) D.fails := by
    obtain ⟨_, y1, _⟩ := hN
    exact y1
  refine ⟨rfl, ⟨hd4.cells.1.2.2.1, hd4.cells.2 2⟩, Lib.hid ?_⟩
  exact ⟨_, write_done hc hf hs h0 h0s h0o hm0 hFs hFo hv hW _ sh' x1 hN⟩

end Go.Proofs.Ytnjjjalenhbicaa.Disk

/-
  Contract of the disk's Write: the whole of it.
-/
namespace Go.Proofs.Ytnjjjalenhbicaa.Disk
open Go Go.RowKit Go.Lib Go.Proofs.Ytnjjjalenhbicaa.Law

/-- What a write leaves. -/
def WroteD (w : World) (O : Owner) (db : Nat) (D : DS) (s : ByteArray) (k : Int) (d : ByteArray) (e : Ending) (W : World) : Prop :=
  e = .returned (.int .i64 (D.writeN s k d.size : Nat)) ∧ ∃ O', DiskAt W O' db (D.write s k d) ∧ Past w O W O'

set_option maxRecDepth 100000 in
set_option maxHeartbeats 4000000 in
theorem write_old (w : World) (O : Owner) (db : Nat) (D : DS) (h : DiskAt w O db D) (hw : WF D) (hmade : D.made ≤ 4294967296) (s : ByteArray) (k : Nat) (dv : Value) (d : ByteArray) (hdl : d.size ≤ 140737488351232) (hI : Bytes w.heap.size w dv (bytesS d)) (h0 : D.writeN s (k : Nat) d.size = 0) (hin : s ∈ D.names) :
    Calls Try.prog 21 #[.pointer (some ⟨db, 0, none⟩), .string s, .int .i64 (k : Nat), dv] w fun e W => e = .returned (.int .i64 0) ∧ ∃ O', DiskAt W O' db (D.wrote s k d) ∧ Past w O W O' := by
  obtain ⟨hr, hk, hfit⟩ := writeN_zero h0
  rw [Int.toNat_natCast] at hk hfit
  obtain ⟨hfail, hright, _⟩ := refN_zero hr
  have hs := short_right hright
  obtain ⟨mb, F, hc, hf⟩ := id h
  obtain ⟨fb, hF, hfile⟩ := hf s hin
  obtain ⟨v, hv⟩ := hfile.vals
  obtain ⟨n, hn, hm⟩ := hc.map
  have hdb := hc.disk.lt
  have hmbl : mb < w.heap.size := hc.lt mb (by rw [hc.omb]; simp)
  have CR := Lib.hid (refusal_calls db mb _ _ _ _ s (by have := short_right hright; unfold Short at this; simp only [maxLen] at this; omega) (k : Int) w hc.disk)
  rw [hr] at CR
  have hnow := hw.nowLe s
  have hus := hw.usedLe
  have hrm := hw.room
  have hu2 : D.used ≤ 4611686018427387904 := Nat.le_trans hus (Nat.le_trans (Nat.mul_le_mul_right _ hmade) (by decide))
  have CK : Hid (∀ W, Below w.heap.size w W → ∃ (na sa ca : Option Addr) (nc sl sc cl cc : Nat) (nt st sh : Bool), Calls Try.prog 40 #[.pointer (some ⟨db, 0, none⟩), .string s] W (KnownOut W (.agg #[.bool nt, .slice na (szO (D.now s)) nc, .bool st, .slice sa sl sc, .bool sh, .slice ca cl cc]))) := Lib.hid fun W hB => by
    obtain ⟨v, ns, sl, cl, nt, st, ⟨_, rfl, _, _⟩, _, _, hc⟩ := known_at (h.below hB) hw s hs
    exact ⟨v.na, v.sa, v.ca, v.nc, sl, v.sc, cl, v.cc, nt, st, v.sh, hc⟩
  obtain ⟨dA, dcap, rfl⟩ := hI.form
  have hbl := bytesS_length d
  rw [hbl] at hI ⊢
  -- in a world that left all
  have HX : Hid (∀ W, Below w.heap.size w W → (W.cell? ⟨db, 0, none⟩ = some (.map (some mb)) ∧ W.cell? ⟨db, 1, none⟩ = some (.int .i64 (D.room : Int)) ∧ W.cell? ⟨db, 2, none⟩ = some (.int .i64 (D.used : Int))) ∧
      (Instr.lookup 62 (.map (some mb)) (.string s) false).run Try.prog W = .ok (.pointer (some ⟨fb, 0, none⟩)) W ∧
      (convert 34 9 (.slice dA d.size dcap)).run Try.prog W = .ok (.string d) W) := Lib.hid fun W hB => by
    have hd := hc.disk.below hB
    refine ⟨⟨hd.cells.1.1, hd.cells.1.2.1, hd.cells.1.2.2.1⟩, ?_, ?_⟩
    · have := (hm.at (W' := W) (hB.block _ hmbl)).look Try.underlying9 Try.underlying62 (zero_ptr _) hs
      rwa [hF] at this
    · have := run_string_bytes (P := Try.prog) W (src := 34) (dst := 9) Try.underlying34 Try.underlying5 Try.underlying9 (hI.below hB)
      rw [this]
      have e : str (bytesS d) = d := by
        unfold str bytesS
        rw [List.map_map]
        have : (UInt8.ofNat ∘ UInt8.toNat) = id := by funext x; simp
        rw [this, List.map_id]
      rw [e]
  have HC : Hid (∀ W0 b, Below w.heap.size w W0 → w.heap.size ≤ b → BoxC W0 b ⟨0, 0, k, d⟩ → Calls Try.prog 47 #[.pointer (some ⟨fb, 0, none⟩), .agg #[.int .i64 0, .int .i64 0, .int .i64 (k : Nat), .string d]] W0 fun e W3 => e = .returned (.tuple #[]) ∧
      (W3.cell? ⟨b, 0, none⟩ = some (.int .i64 0) ∧ W3.cell? ⟨b, 1, none⟩ = some (.int .i64 0) ∧ W3.cell? ⟨b, 2, none⟩ = some (.int .i64 (k : Nat)) ∧ W3.cell? ⟨b, 3, none⟩ = some (.string d)) ∧
      Hid (Calls Try.prog 48 #[.pointer (some ⟨db, 0, none⟩), .pointer (some ⟨fb, 0, none⟩), .agg #[.int .i64 0, .int .i64 0, .int .i64 (k : Nat), .string d]] W3 fun e W4 => e = .returned (.tuple #[]) ∧
        (W4.cell? ⟨db, 2, none⟩ = some (.int .i64 (D.used : Int)) ∧ W4.frozen? ⟨db, 2, none⟩ = false) ∧
        Hid (∃ O', DiskAt (W4.setCell ⟨db, 2, none⟩ (.int .i64 ((D.used + (k + d.size - szO (D.now s)) : Nat) : Int))) O' db (D.wrote s k d) ∧ Past w O (W4.setCell ⟨db, 2, none⟩ (.int .i64 ((D.used + (k + d.size - szO (D.now s)) : Nat) : Int))) O'))) := Lib.hid fun W0 b hB hb hbox => by
    have hv0 : FileV W0 (own O w.heap.size W0.heap.size s) (db + 1) s fb (D.now s) (D.safe s) (mine s D.chs) v := by
      obtain ⟨v1, v2, v3, v4, v5, v6, v7⟩ := hv
      refine ⟨v1.below hB, v2.below hB, v3.below hB, v4, v5.keep fun g hg => hB.block g (v5.own g hg).2, ?_, fun g hg => ?_⟩
      · rw [own_old v1.lt]; exact v6
      · have hgl : g < w.heap.size := by
          rcases hg with hg | hg | hg
          · exact (v2.own g hg).2
          · exact (v3.own g hg).2
          · exact (v5.own g hg).2
        rw [own_old hgl]; exact v7 g hg
    exact write_chain (F' := F) hmade hc (fun x hx _ => hf x hx) hs (fun k hk _ => hB.block k hk) hB.size ⟨hB.os, hB.tape, hB.output⟩ ⟨n, by omega, hm.at (hB.block _ hmbl)⟩ hF (fun _ _ => rfl) hv0 hk (by omega) (hw.mineLe s) hbox hb
  obtain ⟨ns, hns⟩ : ∃ ns, szO (D.now s) = ns := ⟨_, rfl⟩
  rw [hns] at CK HC hk hnow hfit
  obtain ⟨dl, hdl2⟩ : ∃ dl, d.size = dl := ⟨_, rfl⟩
  rw [hdl2] at HX HC hfit hdl ⊢
  obtain ⟨u, hu1⟩ : ∃ u, D.used = u := ⟨_, rfl⟩
  obtain ⟨r, hr1⟩ : ∃ r, D.room = r := ⟨_, rfl⟩
  rw [hu1] at HX HC hfit hu2
  rw [hr1] at HX hfit hrm
  obtain ⟨more, hmore⟩ : ∃ more, k + dl - ns = more := ⟨_, rfl⟩
  rw [hmore] at HC
  have HBN : Hid (∀ n m W, Below n w W → Below n w (W.drewN m)) := Lib.hid fun n m W hB => below_drewN hB
  clear hI hbl hmbl hdb hm hn hv hfile hF hf hc h hw hs hright hfail hr h0 hin hus hmade hdl2 hu1 hr1 hns
  by_cases hpos : 0 < more
  · have hroom : u + more ≤ r := by have := hfit (by omega); omega
    have e1 : ((k : Int) + (dl : Int) - (ns : Int)) = (more : Int) := by omega
    have g0 : decide (0 < more) = true := by simp; omega
    have g1 : IntKind.i64.wrap ((u : Int) + (more : Int)) = ((u + more : Nat) : Int) := by rw [IntKind.wrap_i64]; omega
    have g2 : decide (r < u + more) = false := by simp; omega
    clear hfit hmore
    go_enter Try.func21, Try.ntmps21
    go_wp2_with fail
    refine CR.out.mono ?_
    rintro e W ⟨rfl, hB⟩
    go_wp2_with fail
    obtain ⟨na, sa, ca, nc, sl, sc, cl, cc, nt, st, sh, cK⟩ := CK.out W hB
    have CKK := Lib.hid cK
    clear cK
    refine CKK.out.mono ?_
    rintro e W2 ⟨rfl, hB2⟩
    have q0 := field_now nt st sh na sa ca ns nc sl sc cl cc
    have q1 := field_bytes nt na ns nc
    have hBB := hB.trans (hB2.mono hB.size)
    have HBB := Lib.hid hBB
    obtain ⟨⟨k0, k1, k2⟩, _, _⟩ := HX.out W2 hBB
    clear hB hB2 hBB
    go_wp2_with fail
    go_quiet (fail)
    have HB5 := Lib.hid (below_drewN (m := nq) HBB.out)
    clear HBB
    generalize W2.drewN nq = W5 at HB5 ⊢
    obtain ⟨⟨p0, _, _⟩, _, _⟩ := HX.out W5 HB5.out
    go_wp2_with (first | (refine wpList_lookup_ran (o := ⟨some 57, _, _, _, _, _⟩) rfl _ _ _ _ rfl rfl rfl (HX.out _ HB5.out).2.1 ?_) | (refine wpList_exec_ran (o := ⟨some 71, _, _, _, _, _⟩) rfl (run_conv (HX.out _ HB5.out).2.2) ?_))
    have hB6 := HB5.out.alloc HB5.out.size (.cells #[.int .i64 0, .int .i64 0, .int .i64 (k : Nat), .string d] 86)
    refine (HC.out _ W5.heap.size hB6 HB5.out.size (heap_alloc_new W5 _)).mono ?_
    rintro e W6 ⟨rfl, ⟨r0, r1, r2, r3⟩, HN⟩
    go_wp2_with fail
    refine HN.out.mono ?_
    rintro e W7 ⟨rfl, ⟨s0, s1⟩, HF⟩
    go_wp2_with fail
    go_ret
    exact ⟨rfl, HF.out⟩
  · obtain rfl : more = 0 := by omega
    have hle : (k : Int) + (dl : Int) ≤ (ns : Int) := by omega
    have g0 : decide ((0 : Int) < max ((k : Int) + (dl : Int) - (ns : Int)) 0) = false := by simp; omega
    have g1 : max ((k : Int) + (dl : Int) - (ns : Int)) 0 = 0 := by omega
    clear hfit hmore hpos
    go_enter Try.func21, Try.ntmps21
    go_wp2_with fail
    refine CR.out.mono ?_
    rintro e W ⟨rfl, hB⟩
    go_wp2_with fail
    obtain ⟨na, sa, ca, nc, sl, sc, cl, cc, nt, st, sh, cK⟩ := CK.out W hB
    have CKK := Lib.hid cK
    clear cK
    refine CKK.out.mono ?_
    rintro e W2 ⟨rfl, hB2⟩
    have q0 := field_now nt st sh na sa ca ns nc sl sc cl cc
    have q1 := field_bytes nt na ns nc
    have hBB := hB.trans (hB2.mono hB.size)
    have HBB := Lib.hid hBB
    obtain ⟨⟨k0, k1, k2⟩, _, _⟩ := HX.out W2 hBB
    clear hB hB2 hBB
    go_wp2_with fail
    go_quiet (fail)
    have HB5 := Lib.hid (below_drewN (m := nq) HBB.out)
    clear HBB
    generalize W2.drewN nq = W5 at HB5 ⊢
    obtain ⟨⟨p0, _, _⟩, _, _⟩ := HX.out W5 HB5.out
    go_wp2_with (first | (refine wpList_lookup_ran (o := ⟨some 57, _, _, _, _, _⟩) rfl _ _ _ _ rfl rfl rfl (HX.out _ HB5.out).2.1 ?_) | (refine wpList_exec_ran (o := ⟨some 71, _, _, _, _, _⟩) rfl (run_conv (HX.out _ HB5.out).2.2) ?_))
    have hB6 := HB5.out.alloc HB5.out.size (.cells #[.int .i64 0, .int .i64 0, .int .i64 (k : Nat), .string d] 86)
    refine (HC.out _ W5.heap.size hB6 HB5.out.size (heap_alloc_new W5 _)).mono ?_
    rintro e W6 ⟨rfl, ⟨r0, r1, r2, r3⟩, HN⟩
    go_wp2_with fail
    refine HN.out.mono ?_
    rintro e W7 ⟨rfl, ⟨s0, s1⟩, HF⟩
    go_wp2_with fail
    go_ret
    exact ⟨rfl, HF.out⟩


end Go.Proofs.Ytnjjjalenhbicaa.Disk
