/-
  Contract of the disk's Write: a write that is carried out.
-/
import Derived.Test.YtlmohcmnoddncaaDiskWrite
namespace Go.Proofs.Ytlmohcmnoddncaa.Disk
open Go Go.RowKit Go.Lib Go.Proofs.Ytlmohcmnoddncaa.Law

/-- file's write, whatever is shared. -/
theorem fwrite_calls (fb base : Nat) (nt st sh : Bool) (na sa ca : Option Addr) (nc sc cl cc : Nat) (nbs sbs : List Nat) (c : Chg) (w : World)
    (hf : FB w fb nt (.slice na nbs.length nc) st (.slice sa sbs.length sc) sh (.slice ca cl cc)) (hn : Buf w base 5 (.slice na nbs.length nc) nbs) (hs : Buf w base 5 (.slice sa sbs.length sc) sbs) (hbase : base ≤ w.heap.size)
    (hshare : Share sh (.slice na nbs.length nc) (.slice sa sbs.length sc) nbs.length sbs.length) (hk : c.pos ≤ nbs.length) (hroom : nbs.length + c.s.size ≤ 140737488351232) :
    Calls Try.prog 47 #[.pointer (some ⟨fb, 0, none⟩), chgV c] w (Wrote w fb base st (.slice na nbs.length nc) (.slice sa sbs.length sc) (.slice ca cl cc) nbs sbs c) := by
  by_cases h : sh = true ∧ c.pos < nbs.length
  · obtain ⟨rfl, h2⟩ := h
    exact write_copy fb base nt st na sa ca nc sc cl cc nbs sbs c w hf hn hs hbase h2 hroom
  · exact write_plain fb base nt st sh na sa ca nc sc cl cc nbs sbs c w hf hn hs hbase hshare hk hroom (fun e => by
      have : ¬ c.pos < nbs.length := fun h2 => h ⟨e, h2⟩
      omega)

/-- A change in a box. -/
def BoxC (W : World) (b : Nat) (c : Chg) : Prop := W.heap[b]? = some (.cells #[.int .i64 (c.n : Nat), .int .i64 (c.kind : Nat), .int .i64 (c.pos : Nat), .string c.s] 86 (0, 0))
theorem BoxC.cells {W : World} {b : Nat} {c : Chg} (h : BoxC W b c) : W.cell? ⟨b, 0, none⟩ = some (.int .i64 (c.n : Nat)) ∧ W.cell? ⟨b, 1, none⟩ = some (.int .i64 (c.kind : Nat)) ∧ W.cell? ⟨b, 2, none⟩ = some (.int .i64 (c.pos : Nat)) ∧ W.cell? ⟨b, 3, none⟩ = some (.string c.s) := by
  unfold BoxC at h
  refine ⟨?_, ?_, ?_, ?_⟩ <;> simp [World.cell?, h]

set_option maxHeartbeats 1000000 in
/-- The file's write, then the note of it. -/
theorem write_chain {w w0 : World} {O : Owner} {db mb fb kN b : Nat} {D : DS} {F F' : ByteArray → Option Nat} {s d : ByteArray} {v : KV} (hmade : D.made ≤ 4294967296)
    (hc : Core w O db mb D F) (hf : ∀ x ∈ D.names, x ≠ s → ∃ fb, F x = some fb ∧ FileAt w O (db + 1) x fb (D.now x) (D.safe x) (mine x D.chs)) (hs : Short s)
    (h0 : ∀ k, k < w.heap.size → k ≠ mb → w0.heap[k]? = w.heap[k]?) (h0s : w.heap.size ≤ w0.heap.size) (h0o : w0.os = w.os ∧ w0.tape = w.tape ∧ w0.output = w.output) (hm0 : ∃ n, n ≤ D.made + 1 ∧ MapP Try.prog 9 w0 mb n F')
    (hFs : F' s = some fb) (hFo : ∀ x, x ≠ s → F' x = F x) (hv : FileV w0 (own O w.heap.size w0.heap.size s) (db + 1) s fb (D.now s) (D.safe s) (mine s D.chs) v)
    (hk : kN ≤ szO (D.now s)) (hroom : szO (D.now s) + d.size ≤ 140737488351232) (hch : (mine s D.chs).length ≤ D.made) (hbox : BoxC w0 b ⟨0, 0, kN, d⟩) (hb : w.heap.size ≤ b) :
    Calls Try.prog 47 #[.pointer (some ⟨fb, 0, none⟩), .agg #[.int .i64 0, .int .i64 0, .int .i64 (kN : Nat), .string d]] w0 fun e W3 => e = .returned (.tuple #[]) ∧
      (W3.cell? ⟨b, 0, none⟩ = some (.int .i64 0) ∧ W3.cell? ⟨b, 1, none⟩ = some (.int .i64 0) ∧ W3.cell? ⟨b, 2, none⟩ = some (.int .i64 (kN : Nat)) ∧ W3.cell? ⟨b, 3, none⟩ = some (.string d)) ∧
      Hid (Calls Try.prog 48 #[.pointer (some ⟨db, 0, none⟩), .pointer (some ⟨fb, 0, none⟩), .agg #[.int .i64 0, .int .i64 0, .int .i64 (kN : Nat), .string d]] W3 fun e W4 => e = .returned (.tuple #[]) ∧
        (W4.cell? ⟨db, 2, none⟩ = some (.int .i64 (D.used : Int)) ∧ W4.frozen? ⟨db, 2, none⟩ = false) ∧
        Hid (∃ O', DiskAt (W4.setCell ⟨db, 2, none⟩ (.int .i64 ((D.used + (kN + d.size - szO (D.now s)) : Nat) : Int))) O' db (D.wrote s kN d) ∧ Past w O (W4.setCell ⟨db, 2, none⟩ (.int .i64 ((D.used + (kN + d.size - szO (D.now s)) : Nat) : Int))) O')) := by
  have hdb := hc.disk.lt
  have hmb : mb < w.heap.size := hc.lt mb (by rw [hc.omb]; simp)
  obtain ⟨v1, v2, v3, v4, v5, v6, v7⟩ := id hv
  have hO0 : ∀ k, k < w.heap.size → own O w.heap.size w0.heap.size s k = O k := fun k hk => own_old hk
  have hdbf : db ≠ fb := fun e => by
    have := v6; rw [← e, hO0 db hdb, hc.odb] at this; cases this
  have hdbm : db ≠ mb := fun e => by
    obtain ⟨n, _, D0, hD0, _⟩ := hc.map
    have h1 := hc.disk
    unfold DB at h1
    obtain ⟨es, clock, h2, _⟩ := hD0
    rw [e, h2] at h1
    cases h1
  have hdbn : (v.now (szO (D.now s))).ownBlock ≠ some db := fun e => by
    have := v7 db (.inl e); rw [hO0 db hdb, hc.odb] at this; cases this
  have hd0 : DB w0 db mb (D.room : Int) (D.used : Int) (D.made : Int) D.fails := (h0 db hdb hdbm).trans hc.disk
  have hbf : b ≠ fb := fun e => by
    subst e
    unfold BoxC at hbox; unfold FB at v1
    rw [hbox] at v1
    have := Option.some.inj v1
    injection this with _ h2 _
    exact absurd h2 (by decide)
  have hbn : (v.now (szO (D.now s))).ownBlock ≠ some b := fun e => by
    rcases v2.2 with ⟨h1, _⟩ | ⟨g, cap, cur, h1, _, h2, _⟩
    · rw [h1] at e; cases e
    · rw [h1] at e
      have : g = b := by simpa [Value.ownBlock] using e
      subst this
      unfold BoxC at hbox
      rw [hbox] at h2
      have := Option.some.inj h2
      injection this with _ h2 _
      exact absurd h2 (by decide)
  have hcf : ∀ g, (v.chs (mine s D.chs).length).ownBlock = some g → g ≠ fb := fun g hg e => by
    subst e
    rcases v5.2 with ⟨h1, _⟩ | ⟨g1, cap, cur, h1, _, h2, _⟩
    · rw [h1] at hg; cases hg
    · rw [h1] at hg
      have : g1 = g := by simpa [Value.ownBlock] using hg
      subst this
      unfold FB at v1
      rw [v1] at h2
      have := Option.some.inj h2
      injection this with _ h2 _
      exact absurd h2 (by decide)
  have hcn : ∀ g, (v.chs (mine s D.chs).length).ownBlock = some g → (v.now (szO (D.now s))).ownBlock ≠ some g := fun g hg e => by
    rcases v2.2 with ⟨h1, _⟩ | ⟨g1, cap, cur, h1, _, h2, _⟩
    · rw [h1] at e; cases e
    · rcases v5.2 with ⟨h3, _⟩ | ⟨g2, cap2, cur2, h3, _, h4, _⟩
      · rw [h3] at hg; cases hg
      · rw [h1] at e; rw [h3] at hg
        have e1 : g1 = g := by simpa [Value.ownBlock] using e
        have e2 : g2 = g := by simpa [Value.ownBlock] using hg
        subst e1 e2
        rw [h2] at h4
        have := Option.some.inj h4
        injection this with _ h5 _
        exact absurd h5 (by decide)
  have cW := fwrite_calls fb (db + 1) (D.now s).isSome (D.safe s).isSome v.sh v.na v.sa v.ca v.nc v.sc (mine s D.chs).length v.cc ((D.now s).getD []) ((D.safe s).getD []) ⟨0, 0, kN, d⟩ w0
    (by rw [szO_getD, szO_getD]; exact v1) (by rw [szO_getD]; exact v2) (by rw [szO_getD]; exact v3) (by omega) (by rw [szO_getD, szO_getD]; exact v4) (by rw [szO_getD]; exact hk) (by rw [szO_getD]; exact hroom)
  rw [szO_getD, szO_getD] at cW
  refine cW.mono ?_
  intro e W3 hW
  obtain ⟨nv', sh', rfl, x1, x2, x3, x4, x5, x6, x7, x8, x9, x10⟩ := id hW
  have hb3 : BoxC W3 b ⟨0, 0, kN, d⟩ := (x10 b (Array.getElem?_eq_some_iff.1 (show w0.heap[b]? = _ from hbox)).1 hbf hbn).trans hbox
  refine ⟨rfl, hb3.cells, Lib.hid ?_⟩
  have hd3 : DB W3 db mb (D.room : Int) (D.used : Int) (D.made : Int) D.fails := (x10 db (by omega) hdbf hdbn).trans hd0
  have hC3 : OwnC W3 (db + 1) (v.chs (mine s D.chs).length) (mine s D.chs) := v5.keep fun g hg => x10 g (v5.own g hg).2 (hcf g hg) (hcn g hg)
  obtain ⟨na', nc', rfl, _⟩ := x2.form
  have cN := note_calls db mb fb (D.room : Int) (D.used : Int) D.made (by omega) D.fails true (D.safe s).isSome sh' na' v.sa v.ca _ nc' (szO (D.safe s)) v.sc (mine s D.chs).length v.cc (mine s D.chs) ⟨0, 0, kN, d⟩ (db + 1) W3 hd3 x1 hdbf hC3 (by omega) (Nat.lt_succ_self _) hcf (by omega)
  refine cN.mono ?_
  rintro e W4 ⟨rfl, hN⟩
  have hd4 : DB W4 db mb (D.room : Int) (D.used : Int) ((D.made + 1 : Nat) : Int) D.fails := by
    obtain ⟨_, y1, _⟩ := hN
    exact y1
  refine ⟨rfl, ⟨hd4.cells.1.2.2.1, hd4.cells.2 2⟩, Lib.hid ?_⟩
  exact ⟨_, write_done hc hf hs h0 h0s h0o hm0 hFs hFo hv hW _ sh' x1 hN⟩

end Go.Proofs.Ytlmohcmnoddncaa.Disk
