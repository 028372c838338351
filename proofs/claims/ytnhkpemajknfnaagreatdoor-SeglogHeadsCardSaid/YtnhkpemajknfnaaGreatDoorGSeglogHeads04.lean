/-
  Put together out of texts of one chain: what they hold stands ahead of each.
-/
import Derived.Test.YtnhkpemajknfnaaGreatDoorGSeglogHeads03
import Derived.Test.YtnhkpemajknfnaaGreatDoorQuietTail
import Derived.Lib.QuietBelow
/-
  Contract of the disk's Write: what it refuses; what it does to a file that is there.
-/
namespace Go.Proofs.YtnhkpemajknfnaaGreatDoor.Disk
open Go Go.RowKit Go.Lib Go.Proofs.YtnhkpemajknfnaaGreatDoor.Law

/-- The values of what is known of a file. -/
structure KV where
  sh : Bool
  na : Option Addr
  nc : Nat
  sa : Option Addr
  sc : Nat
  ca : Option Addr
  cc : Nat
abbrev KV.now (v : KV) (n : Nat) : Value := .slice v.na n v.nc
abbrev KV.safe (v : KV) (n : Nat) : Value := .slice v.sa n v.sc
abbrev KV.chs (v : KV) (n : Nat) : Value := .slice v.ca n v.cc

/-- A file's values. -/
def FileV (W : World) (O : Owner) (base : Nat) (s : ByteArray) (fb : Nat) (now safe : Option (List Nat)) (cs : List Chg) (v : KV) : Prop :=
  FB W fb now.isSome (v.now (szO now)) safe.isSome (v.safe (szO safe)) v.sh (v.chs cs.length) ∧ Buf W base 5 (v.now (szO now)) (now.getD []) ∧ Buf W base 5 (v.safe (szO safe)) (safe.getD []) ∧ Share v.sh (v.now (szO now)) (v.safe (szO safe)) (szO now) (szO safe) ∧ OwnC W base (v.chs cs.length) cs ∧
    O fb = some (some s) ∧ ∀ g, (v.now (szO now)).ownBlock = some g ∨ (v.safe (szO safe)).ownBlock = some g ∨ (v.chs cs.length).ownBlock = some g → O g = some (some s)
theorem FileAt.vals {W : World} {O : Owner} {base fb : Nat} {s : ByteArray} {now safe : Option (List Nat)} {cs : List Chg} (h : FileAt W O base s fb now safe cs) : ∃ v, FileV W O base s fb now safe cs v := by
  obtain ⟨sh, nv, sv, cv, h1, h2, h3, h4, h5, h6, h7⟩ := h
  obtain ⟨na, nc, rfl, _⟩ := h2.form
  obtain ⟨sa, sc, rfl, _⟩ := h3.form
  obtain ⟨ca, cc, rfl⟩ := h5.form
  refine ⟨⟨sh, na, nc, sa, sc, ca, cc⟩, ?_⟩
  unfold FileV
  simp only [KV.now, KV.safe, KV.chs, ← szO_getD]
  exact ⟨h1, h2, h3, h4, h5, h6, h7⟩
theorem FileV.at {W : World} {O : Owner} {base fb : Nat} {s : ByteArray} {now safe : Option (List Nat)} {cs : List Chg} {v : KV} (h : FileV W O base s fb now safe cs v) : FileAt W O base s fb now safe cs := by
  unfold FileV at h
  simp only [← szO_getD] at h
  exact ⟨_, _, _, _, h⟩

/-- What known answers of a disk. -/
theorem known_at {w : World} {O : Owner} {db : Nat} {D : DS} (h : DiskAt w O db D) (hw : WF D) (s : ByteArray) (hs : Short s) :
    ∃ v : KV, ∃ ns sl cl : Nat, ∃ nt st : Bool, (nt = (D.now s).isSome ∧ ns = szO (D.now s) ∧ st = (D.safe s).isSome ∧ sl = szO (D.safe s)) ∧ Buf w 0 5 (v.now ns) ((D.now s).getD []) ∧ Buf w 0 5 (v.safe sl) ((D.safe s).getD []) ∧
      Calls Tryz.prog 28 #[.pointer (some ⟨db, 0, none⟩), .string s] w (KnownOut w (fileV nt (v.now ns) st (v.safe sl) v.sh (v.chs cl))) := by
  obtain ⟨mb, F, hc, hf⟩ := h
  obtain ⟨n, _, hm⟩ := hc.map
  by_cases hin : s ∈ D.names
  · obtain ⟨fb, hF, hfile⟩ := hf s hin
    obtain ⟨v, hv⟩ := hfile.vals
    exact ⟨v, _, _, _, _, _, ⟨rfl, rfl, rfl, rfl⟩, hv.2.1.lower (Nat.zero_le _), hv.2.2.1.lower (Nat.zero_le _), known_some db mb _ _ _ _ n F s hs w hc.disk hm fb hF _ _ _ _ _ _ _ _ _ _ _ _ hv.1⟩
  · obtain ⟨h1, h2, _⟩ := hw.gone hin
    have hF : F s = none := by
      cases hq : F s with
      | none => rfl
      | some fb => exact absurd ((hc.dom s hs).1 (by rw [hq]; rfl)) hin
    refine ⟨⟨false, none, 0, none, 0, none, 0⟩, 0, 0, 0, false, false, ⟨by rw [h1]; rfl, by rw [h1]; rfl, by rw [h2]; rfl, by rw [h2]; rfl⟩, ?_, ?_, known_none db mb _ _ _ _ n F s hs w hc.disk hm hF⟩
    · rw [h1]; exact Buf.nil _ _ _
    · rw [h2]; exact Buf.nil _ _ _

theorem DiskAt.db {w : World} {O : Owner} {db : Nat} {D : DS} (h : DiskAt w O db D) : ∃ mb, DB w db mb (D.room : Int) (D.used : Int) (D.made : Int) D.fails := by
  obtain ⟨mb, F, hc, _⟩ := h
  exact ⟨mb, hc.disk⟩

theorem field_now (nt st sh : Bool) (na sa ca : Option Addr) (nl nc sl sc cl cc : Nat) (w : World) : (Instr.field 68 (.agg #[.bool nt, .slice na nl nc, .bool st, .slice sa sl sc, .bool sh, .slice ca cl cc]) 0).run Tryz.prog w = .ok (.agg #[.bool nt, .slice na nl nc]) w := by kernel_rfl
theorem field_safe (nt st sh : Bool) (na sa ca : Option Addr) (nl nc sl sc cl cc : Nat) (w : World) : (Instr.field 68 (.agg #[.bool nt, .slice na nl nc, .bool st, .slice sa sl sc, .bool sh, .slice ca cl cc]) 1).run Tryz.prog w = .ok (.agg #[.bool st, .slice sa sl sc]) w := by kernel_rfl
theorem field_there (nt : Bool) (na : Option Addr) (nl nc : Nat) (w : World) : (Instr.field 65 (.agg #[.bool nt, .slice na nl nc]) 0).run Tryz.prog w = .ok (.bool nt) w := by kernel_rfl
theorem field_bytes (nt : Bool) (na : Option Addr) (nl nc : Nat) (w : World) : (Instr.field 65 (.agg #[.bool nt, .slice na nl nc]) 1).run Tryz.prog w = .ok (.slice na nl nc) w := by kernel_rfl

theorem below_drewN {n m : Nat} {w W : World} (h : Below n w W) : Below n w (W.drewN m) := ⟨h.os, h.tape, h.output, h.size, h.block⟩

/-- What a call that is refused leaves. -/
def ErrD (w : World) (n : Nat) (e : Ending) (W : World) : Prop := e = .returned (.int .i64 (n : Nat)) ∧ Below w.heap.size w W

set_option maxRecDepth 100000 in
set_option maxHeartbeats 4000000 in
theorem write_err (w : World) (O : Owner) (db : Nat) (D : DS) (h : DiskAt w O db D) (hw : WF D) (hmade : D.made ≤ 4294967296) (s : ByteArray) (hs63 : s.size ≤ 9223372036854775807) (k : Int) (hk63 : k ≤ 9223372036854775807) (dA : Option Addr) (dl dc : Nat) (hdl : dl ≤ 140737488351232) (h0 : D.writeN s k dl ≠ 0) :
    Calls Tryz.prog 9 #[.pointer (some ⟨db, 0, none⟩), .string s, .int .i64 k, .slice dA dl dc] w (ErrD w (D.writeN s k dl)) := by
  obtain ⟨n, hn⟩ : ∃ n, D.writeN s k dl = n := ⟨_, rfl⟩
  rw [hn] at h0 ⊢
  obtain ⟨mb, hdb⟩ := h.db
  have CR := Lib.hid (refusal_calls db mb _ _ _ _ s hs63 k w hdb)
  by_cases hr : refN D.fails s k = 0
  · obtain ⟨_, hright, hk0⟩ := refN_zero hr
    rw [hr] at CR
    have CK : Hid (∀ W, Below w.heap.size w W → ∃ (na sa ca : Option Addr) (nc sl sc cl cc : Nat) (nt st sh : Bool), Calls Tryz.prog 28 #[.pointer (some ⟨db, 0, none⟩), .string s] W (KnownOut W (.agg #[.bool nt, .slice na (szO (D.now s)) nc, .bool st, .slice sa sl sc, .bool sh, .slice ca cl cc]))) := Lib.hid fun W hB => by
      obtain ⟨v, ns, sl, cl, nt, st, ⟨_, rfl, _, _⟩, _, _, hc⟩ := known_at (h.below hB) hw s (short_right hright)
      exact ⟨v.na, v.sa, v.ca, v.nc, sl, v.sc, cl, v.cc, nt, st, v.sh, hc⟩
    have hsz := hw.nowLe s
    obtain ⟨ns, hns⟩ : ∃ ns, szO (D.now s) = ns := ⟨_, rfl⟩
    rw [hns] at CK hsz
    obtain ⟨kN, rfl⟩ : ∃ kN : Nat, k = (kN : Nat) := ⟨k.toNat, by omega⟩
    by_cases h8 : ns < kN
    · have : n = 8 := by
        rw [← hn]; unfold DS.writeN
        rw [if_neg (by rw [hr]; simp), hns, if_pos (by omega)]
      subst this
      clear hn hr hdb h hw hns h0
      go_enter Tryz.func9, Tryz.ntmps9
      go_wp2_with fail
      refine CR.out.mono ?_
      rintro e W ⟨rfl, hB⟩
      go_wp2_with fail
      obtain ⟨na, sa, ca, nc, sl, sc, cl, cc, nt, st, sh, cK⟩ := CK.out W hB
      have CKK := Lib.hid cK
      clear cK
      refine CKK.out.mono ?_
      rintro e W2 ⟨rfl, hB2⟩
      have q0 := field_now nt st sh na sa ca ns nc sl sc cl cc
      have q1 := field_bytes nt na ns nc
      go_wp2_with fail
      go_ret
      exact ⟨rfl, hB.trans (hB2.mono hB.size)⟩
    · have h9 : ns < kN + dl ∧ D.room + ns < D.used + (kN + dl) ∧ n = 6 := by
        unfold DS.writeN at hn
        rw [if_neg (by rw [hr]; simp), hns, if_neg (by omega), Int.toNat_natCast] at hn
        by_cases hx : ns < kN + dl ∧ D.room + ns < D.used + (kN + dl)
        · rw [if_pos hx] at hn; exact ⟨hx.1, hx.2, hn.symm⟩
        · rw [if_neg hx] at hn; exact absurd hn.symm h0
      obtain ⟨h10, h11, rfl⟩ := h9
      have hu := hw.usedLe
      have hroom := hw.room
      obtain ⟨⟨d0, d1, d2, d3, d4⟩, d5⟩ := hdb.cells
      obtain ⟨u, hu1⟩ : ∃ u, D.used = u := ⟨_, rfl⟩
      obtain ⟨r, hr1⟩ : ∃ r, D.room = r := ⟨_, rfl⟩
      rw [hu1] at d2 hu h11
      rw [hr1] at d1 h11 hroom
      have hdlt := hdb.lt
      have hDD : Hid (∀ W, Below w.heap.size w W → W.cell? ⟨db, 1, none⟩ = some (.int .i64 (r : Int)) ∧ W.cell? ⟨db, 2, none⟩ = some (.int .i64 (u : Int))) := Lib.hid fun W hB => ⟨(hB.cell (p := ⟨db, 1, none⟩) hdlt).trans d1, (hB.cell (p := ⟨db, 2, none⟩) hdlt).trans d2⟩
      obtain ⟨more, hmore⟩ : ∃ more, kN + dl - ns = more := ⟨_, rfl⟩
      have e1 : ((kN : Int) + (dl : Int) - (ns : Int)) = (more : Int) := by omega
      have hu2 : u ≤ 4611686018427387904 := Nat.le_trans hu (Nat.le_trans (Nat.mul_le_mul_right _ hmade) (by decide))
      have h12 : r < u + more := by omega
      have h13 : 0 < more := by omega
      clear hn hr hdb h hw hns h0 hu hu1 hr1 d0 d1 d2 d3 d4 d5 h11 hmade hroom
      go_enter Tryz.func9, Tryz.ntmps9
      go_wp2_with fail
      refine CR.out.mono ?_
      rintro e W ⟨rfl, hB⟩
      go_wp2_with fail
      obtain ⟨na, sa, ca, nc, sl, sc, cl, cc, nt, st, sh, cK⟩ := CK.out W hB
      have CKK := Lib.hid cK
      clear cK
      refine CKK.out.mono ?_
      rintro e W2 ⟨rfl, hB2⟩
      have q0 := field_now nt st sh na sa ca ns nc sl sc cl cc
      have q1 := field_bytes nt na ns nc
      have hBB := hB.trans (hB2.mono hB.size)
      obtain ⟨k1, k2⟩ := hDD.out W2 hBB
      go_wp2_with fail
      have g0 : decide (0 < more) = true := by simp; omega
      have g1 : IntKind.i64.wrap ((u : Int) + (more : Int)) = ((u + more : Nat) : Int) := by rw [IntKind.wrap_i64]; omega
      have g2 : decide (r < u + more) = true := by simp; omega
      go_quiet (fail)
      go_wp2_with fail
      go_ret
      exact ⟨rfl, below_drewN hBB⟩
  · have : n = refN D.fails s k := by
      rw [← hn]; unfold DS.writeN
      rw [if_pos hr]
    rw [← this] at CR
    have hnI : ((n : Int) != 0) = true := by rw [bne_iff_ne]; omega
    clear this hn hr hdb h hw
    go_enter Tryz.func9, Tryz.ntmps9
    go_wp2_with fail
    refine CR.out.mono ?_
    rintro e W ⟨rfl, hB⟩
    go_wp2_with fail
    go_ret
    exact ⟨rfl, hB⟩

theorem not_of_owner {O : Owner} {k : Nat} {s : ByteArray} (h : ∀ x, O k = some x → ∃ y, x = some y ∧ y ≠ s) : O k ≠ some none ∧ O k ≠ some (some s) := by
  refine ⟨fun e => ?_, fun e => ?_⟩
  · obtain ⟨y, h1, _⟩ := h _ e
    cases h1
  · obtain ⟨y, h1, h2⟩ := h _ e
    exact h2 (Option.some.inj h1).symm

/-- The disk behind a write. -/
theorem write_done {w w0 W3 W4 : World} {O : Owner} {db mb fb kN : Nat} {D : DS} {F F' : ByteArray → Option Nat} {s d : ByteArray} {v : KV} {e : Ending}
    (hc : Core w O db mb D F) (hf : ∀ x ∈ D.names, x ≠ s → ∃ fb, F x = some fb ∧ FileAt w O (db + 1) x fb (D.now x) (D.safe x) (mine x D.chs)) (hs : Short s)
    (h0 : ∀ k, k < w.heap.size → k ≠ mb → w0.heap[k]? = w.heap[k]?) (h0s : w.heap.size ≤ w0.heap.size) (h0o : w0.os = w.os ∧ w0.tape = w.tape ∧ w0.output = w.output) (hm0 : ∃ n, n ≤ D.made + 1 ∧ MapP Tryz.prog 9 w0 mb n F')
    (hFs : F' s = some fb) (hFo : ∀ x, x ≠ s → F' x = F x) (hv : FileV w0 (own O w.heap.size w0.heap.size s) (db + 1) s fb (D.now s) (D.safe s) (mine s D.chs) v)
    (hW : Wrote w0 fb (db + 1) (D.safe s).isSome (v.now (szO (D.now s))) (v.safe (szO (D.safe s))) (v.chs (mine s D.chs).length) ((D.now s).getD []) ((D.safe s).getD []) ⟨0, 0, kN, d⟩ e W3)
    (nv' : Value) (sh' : Bool) (hfb3 : FB W3 fb true nv' (D.safe s).isSome (v.safe (szO (D.safe s))) sh' (v.chs (mine s D.chs).length))
    (hN : Noted W3 db mb fb (D.room : Int) (D.used : Int) D.made D.fails true (D.safe s).isSome sh' nv' (v.safe (szO (D.safe s))) (v.chs (mine s D.chs).length) (mine s D.chs) ⟨0, 0, kN, d⟩ (db + 1) W4) :
    DiskAt (W4.setCell ⟨db, 2, none⟩ (.int .i64 ((D.used + (kN + d.size - szO (D.now s)) : Nat) : Int))) (own O w.heap.size (W4.setCell ⟨db, 2, none⟩ (.int .i64 ((D.used + (kN + d.size - szO (D.now s)) : Nat) : Int))).heap.size s) db (D.wrote s kN d) ∧
      Past w O (W4.setCell ⟨db, 2, none⟩ (.int .i64 ((D.used + (kN + d.size - szO (D.now s)) : Nat) : Int))) (own O w.heap.size (W4.setCell ⟨db, 2, none⟩ (.int .i64 ((D.used + (kN + d.size - szO (D.now s)) : Nat) : Int))).heap.size s) := by
  obtain ⟨u, hu⟩ : ∃ u : Value, .int .i64 ((D.used + (kN + d.size - szO (D.now s)) : Nat) : Int) = u := ⟨_, rfl⟩
  rw [hu]
  have hdb := hc.disk.lt
  have hmb : mb < w.heap.size := hc.lt mb (by rw [hc.omb]; simp)
  obtain ⟨v1, v2, v3, v4, v5, v6, v7⟩ := hv
  obtain ⟨nv2, sh2, _, x1, x2, x3, x4, x5, x6, x7, x8, x9, x10⟩ := hW
  have hsame : FB W3 fb true nv2 (D.safe s).isSome (v.safe (szO (D.safe s))) sh2 (v.chs (mine s D.chs).length) := x1
  obtain ⟨rfl, rfl⟩ : nv' = nv2 ∧ sh' = sh2 := by
    unfold FB at hfb3 hsame
    rw [hfb3] at hsame
    have := Option.some.inj hsame
    injection this with h1
    simp at h1
    exact h1
  obtain ⟨cv', y1, y2, y3, y4, y5, y6, y7, y8, y9⟩ := hN
  have hO0 : ∀ k, k < w.heap.size → own O w.heap.size w0.heap.size s k = O k := fun k hk => own_old hk
  have hfb0 := v1.lt
  -- the owners of what was turned
  have hof : ∀ k, k < w.heap.size → O k ≠ some none → O k ≠ some (some s) → k ≠ mb ∧ k ≠ db ∧ k ≠ fb ∧ (v.now (szO (D.now s))).ownBlock ≠ some k ∧ (v.chs (mine s D.chs).length).ownBlock ≠ some k := fun k hk h1 h2 => by
    refine ⟨fun e => h1 (e ▸ hc.omb), fun e => h1 (e ▸ hc.odb), fun e => h2 ?_, fun e => h2 ?_, fun e => h2 ?_⟩
    · have := v6; rw [← e, hO0 k hk] at this; exact this
    · have := v7 k (.inl e); rw [hO0 k hk] at this; exact this
    · have := v7 k (.inr (.inr e)); rw [hO0 k hk] at this; exact this
  have hdbf : db ≠ fb := fun e => by
    have := v6; rw [← e, hO0 db hdb, hc.odb] at this; cases this
  have hmbf : mb ≠ fb := fun e => by
    have := v6; rw [← e, hO0 mb hmb, hc.omb] at this; cases this
  have hnm : ∀ k, k < w.heap.size → O k = some none → (v.now (szO (D.now s))).ownBlock ≠ some k ∧ (v.chs (mine s D.chs).length).ownBlock ≠ some k := fun k hk h1 => by
    refine ⟨fun e => ?_, fun e => ?_⟩
    · have := v7 k (.inl e); rw [hO0 k hk, h1] at this; cases this
    · have := v7 k (.inr (.inr e)); rw [hO0 k hk, h1] at this; cases this
  have hdbm : db ≠ mb := fun e => by
    obtain ⟨n, _, D0, hD0, _⟩ := hc.map
    have h1 := hc.disk
    unfold DB at h1
    obtain ⟨es, clock, h2, _⟩ := hD0
    rw [e, h2] at h1
    cases h1
  have hset : ∀ k, k ≠ db → (W4.setCell ⟨db, 2, none⟩ u).heap[k]? = W4.heap[k]? := fun k hk => Below.heap_setCell _ _ _ _ hk
  have hsz : (W4.setCell ⟨db, 2, none⟩ u).heap.size = W4.heap.size := by simp [World.setCell]
  have hcf : (v.chs (mine s D.chs).length).ownBlock ≠ some fb := fun e => by
    rcases v5.2 with ⟨h1, _⟩ | ⟨g, cap, cur, h1, _, h2, _⟩
    · rw [h1] at e; cases e
    · rw [h1] at e
      have : g = fb := by simpa [Value.ownBlock] using e
      subst this
      unfold FB at v1
      rw [v1] at h2
      have := Option.some.inj h2
      injection this with _ h2 _
      exact absurd h2 (by decide)
  -- a row of bytes lies in no row of changes
  have hcn : ∀ {W : World} {b1 : Nat} {x : Value} {bs : List Nat} {l : List Chg} {c : Value}, Buf W b1 5 x bs → OwnC W (db + 1) c l → ∀ g, x.ownBlock = some g → c.ownBlock ≠ some g := fun {W b1 x bs l c} hx hcc g hg e => by
    rcases hx.2 with ⟨h1, _⟩ | ⟨g1, cap, cur, h1, _, h2, _⟩
    · rw [h1] at hg; cases hg
    · rcases hcc.2 with ⟨h3, _⟩ | ⟨g2, cap2, cur2, h3, _, h4, _⟩
      · rw [h3] at e; cases e
      · rw [h1] at hg; rw [h3] at e
        have e1 : g1 = g := by simpa [Value.ownBlock] using hg
        have e2 : g2 = g := by simpa [Value.ownBlock] using e
        subst e1 e2
        rw [h2] at h4
        have := Option.some.inj h4
        injection this with _ h5 _
        exact absurd h5 (by decide)
  have hC3 : OwnC W3 (db + 1) (v.chs (mine s D.chs).length) (mine s D.chs) := v5.keep fun g hg => x10 g (v5.own g hg).2 (fun e => hcf (e ▸ hg)) (fun e => hcn v2 v5 g e hg)
  refine DiskAt.turned (fb := fb) (F' := F') hc hf ?_ ?_ ?_ (by rw [hsz]; omega) ?_ ?_ ?_ ?_ ?_ ?_
  · show (W4.setCell ⟨db, 2, none⟩ u).heap[db]? = some (.cells #[.map (some mb), .int .i64 (D.room : Int), .int .i64 ((D.used + (kN + d.size - szO (D.now s)) : Nat) : Int), .int .i64 ((D.made + 1 : Nat) : Int), .bool D.fails] 62 (0, 0))
    rw [hu]
    exact (block_set y1 2 u).trans (by simp)
  · obtain ⟨n, hn, hm⟩ := hm0
    refine ⟨n, hn, hm.at ?_⟩
    obtain ⟨h1, h2⟩ := hnm mb hmb hc.omb
    rw [hset mb (Ne.symm hdbm), y9 mb (by omega) (Ne.symm hdbm) hmbf h2, x10 mb (by omega) hmbf h1]
  · intro x hx
    show (F' x).isSome ↔ x ∈ (if s ∈ D.names then D.names else D.names ++ [s])
    by_cases hxs : x = s
    · subst hxs
      rw [hFs]
      by_cases hin : x ∈ D.names
      · rw [if_pos hin]; simp [hin]
      · rw [if_neg hin]; simp
    · rw [hFo x hxs, hc.dom x hx]
      by_cases hin : s ∈ D.names
      · rw [if_pos hin]
      · rw [if_neg hin]; simp [hxs]
  · intro k hk ho
    obtain ⟨h1, h2⟩ := not_of_owner ho
    obtain ⟨p1, p2, p3, p4, p5⟩ := hof k hk h1 h2
    rw [hset k p2, y9 k (by omega) p2 p3 p5, x10 k (by omega) p3 p4, h0 k hk p1]
  · intro x hx hxs
    have hx' : x ∈ (if s ∈ D.names then D.names else D.names ++ [s]) := hx
    refine ⟨?_, hFo x hxs, upd_other _ _ hxs, rfl, ?_⟩
    · by_cases hin : s ∈ D.names
      · rw [if_pos hin] at hx'; exact hx'
      · rw [if_neg hin] at hx'
        rcases List.mem_append.1 hx' with h1 | h1
        · exact h1
        · exact absurd (by simpa using h1) hxs
    · show mine x (D.chs ++ [(s, _)]) = _
      rw [mine_append, mine_one_other _ (Ne.symm hxs), List.append_nil]
  · intro _
    refine ⟨hFs, ?_⟩
    have e1 : (D.wrote s kN d).now s = some (overL ((D.now s).getD []) kN (bytesS d)) := upd_same _ _ _
    have e2 : mine s (D.wrote s kN d).chs = mine s D.chs ++ [⟨D.made, 0, kN, d⟩] := by
      show mine s (D.chs ++ [(s, _)]) = _
      rw [mine_append, mine_one]
    rw [e1, e2]
    have hnvlt := x2.own
    have hB4 : ∀ {b1 : Nat} {x : Value} {bs : List Nat}, Buf W3 (db + 1) 5 x bs → Buf (W4.setCell ⟨db, 2, none⟩ u) (db + 1) 5 x bs := fun {b1 x bs} hx => hx.keep fun g hg => by
      have h1 := hx.own g hg
      have hgd : g ≠ db := by omega
      have hgf : g ≠ fb := fun e => buf_not_file x1 hx (e ▸ hg)
      rw [hset g hgd, y9 g h1.2 hgd hgf (hcn hx hC3 g hg)]
    refine ⟨sh', nv', v.safe (szO (D.safe s)), cv', ?_, hB4 (b1 := 0) x2, hB4 (b1 := 0) x3, x4, y3.keep (fun g hg => hset g (by have := (y3.own g hg).1; omega)), ?_, ?_⟩
    · exact (hset fb (Ne.symm hdbf)).trans y2
    · by_cases hlt : fb < w.heap.size
      · rw [own_old hlt]; have := v6; rwa [hO0 fb hlt] at this
      · exact own_new (by omega) (by rw [hsz]; omega)
    · have hgo : ∀ g, g < w0.heap.size → own O w.heap.size w0.heap.size s g = some (some s) → own O w.heap.size (W4.setCell ⟨db, 2, none⟩ u).heap.size s g = some (some s) := fun g hg ho => by
        by_cases hlt : g < w.heap.size
        · rw [own_old hlt]; rwa [hO0 g hlt] at ho
        · exact own_new (by omega) (by rw [hsz]; omega)
      rintro g (hg | hg | hg)
      · rcases x5 g hg with h1 | h1
        · exact hgo g (v2.own g h1).2 (v7 g (.inl h1))
        · exact own_new (by omega) (by rw [hsz]; have := (x2.own g hg).2; omega)
      · exact hgo g (v3.own g hg).2 (v7 g (.inr (.inl hg)))
      · rcases y4 with h1 | ⟨g2, h1, h2⟩
        · rw [h1] at hg; exact hgo g (v5.own g hg).2 (v7 g (.inr (.inr hg)))
        · rw [hg] at h1
          have : g = g2 := by simpa using h1
          exact own_new (by omega) (by rw [hsz]; exact (y3.own g hg).2)
  · show W4.os = w.os
    rw [← y5, ← x6, h0o.1]
  · show W4.tape = w.tape
    rw [← y6, ← x7, h0o.2.1]
  · show W4.output = w.output
    rw [← y7, ← x8, h0o.2.2]

end Go.Proofs.YtnhkpemajknfnaaGreatDoor.Disk

/-
  Contract of the disk's Write: a write that is carried out.
-/
namespace Go.Proofs.YtnhkpemajknfnaaGreatDoor.Disk
open Go Go.RowKit Go.Lib Go.Proofs.YtnhkpemajknfnaaGreatDoor.Law

/-- file's write, whatever is shared. -/
theorem fwrite_calls (fb base : Nat) (nt st sh : Bool) (na sa ca : Option Addr) (nc sc cl cc : Nat) (nbs sbs : List Nat) (c : Chg) (w : World)
    (hf : FB w fb nt (.slice na nbs.length nc) st (.slice sa sbs.length sc) sh (.slice ca cl cc)) (hn : Buf w base 5 (.slice na nbs.length nc) nbs) (hs : Buf w base 5 (.slice sa sbs.length sc) sbs) (hbase : base ≤ w.heap.size)
    (hshare : Share sh (.slice na nbs.length nc) (.slice sa sbs.length sc) nbs.length sbs.length) (hk : c.pos ≤ nbs.length) (hroom : nbs.length + c.s.size ≤ 140737488351232) :
    Calls Tryz.prog 30 #[.pointer (some ⟨fb, 0, none⟩), chgV c] w (Wrote w fb base st (.slice na nbs.length nc) (.slice sa sbs.length sc) (.slice ca cl cc) nbs sbs c) := by
  by_cases h : sh = true ∧ c.pos < nbs.length
  · obtain ⟨rfl, h2⟩ := h
    exact write_copy fb base nt st na sa ca nc sc cl cc nbs sbs c w hf hn hs hbase h2 hroom
  · exact write_plain fb base nt st sh na sa ca nc sc cl cc nbs sbs c w hf hn hs hbase hshare hk hroom (fun e => by
      have : ¬ c.pos < nbs.length := fun h2 => h ⟨e, h2⟩
      omega)

/-- A change in a box. -/
def BoxC (W : World) (b : Nat) (c : Chg) : Prop := W.heap[b]? = some (.cells #[.int .i64 (c.n : Nat), .int .i64 (c.kind : Nat), .int .i64 (c.pos : Nat), .string c.s] 73 (0, 0))
theorem BoxC.cells {W : World} {b : Nat} {c : Chg} (h : BoxC W b c) : W.cell? ⟨b, 0, none⟩ = some (.int .i64 (c.n : Nat)) ∧ W.cell? ⟨b, 1, none⟩ = some (.int .i64 (c.kind : Nat)) ∧ W.cell? ⟨b, 2, none⟩ = some (.int .i64 (c.pos : Nat)) ∧ W.cell? ⟨b, 3, none⟩ = some (.string c.s) := by
  unfold BoxC at h
  refine ⟨?_, ?_, ?_, ?_⟩ <;> simp [World.cell?, h]

set_option maxHeartbeats 1000000 in
/-- The file's write, then the note of it. -/
theorem write_chain {w w0 : World} {O : Owner} {db mb fb kN b : Nat} {D : DS} {F F' : ByteArray → Option Nat} {s d : ByteArray} {v : KV} (hmade : D.made ≤ 4294967296)
    (hc : Core w O db mb D F) (hf : ∀ x ∈ D.names, x ≠ s → ∃ fb, F x = some fb ∧ FileAt w O (db + 1) x fb (D.now x) (D.safe x) (mine x D.chs)) (hs : Short s)
    (h0 : ∀ k, k < w.heap.size → k ≠ mb → w0.heap[k]? = w.heap[k]?) (h0s : w.heap.size ≤ w0.heap.size) (h0o : w0.os = w.os ∧ w0.tape = w.tape ∧ w0.output = w.output) (hm0 : ∃ n, n ≤ D.made + 1 ∧ MapP Tryz.prog 9 w0 mb n F')
    (hFs : F' s = some fb) (hFo : ∀ x, x ≠ s → F' x = F x) (hv : FileV w0 (own O w.heap.size w0.heap.size s) (db + 1) s fb (D.now s) (D.safe s) (mine s D.chs) v)
    (hk : kN ≤ szO (D.now s)) (hroom : szO (D.now s) + d.size ≤ 140737488351232) (hch : (mine s D.chs).length ≤ D.made) (hbox : BoxC w0 b ⟨0, 0, kN, d⟩) (hb : w.heap.size ≤ b) :
    Calls Tryz.prog 30 #[.pointer (some ⟨fb, 0, none⟩), .agg #[.int .i64 0, .int .i64 0, .int .i64 (kN : Nat), .string d]] w0 fun e W3 => e = .returned (.tuple #[]) ∧
      (W3.cell? ⟨b, 0, none⟩ = some (.int .i64 0) ∧ W3.cell? ⟨b, 1, none⟩ = some (.int .i64 0) ∧ W3.cell? ⟨b, 2, none⟩ = some (.int .i64 (kN : Nat)) ∧ W3.cell? ⟨b, 3, none⟩ = some (.string d)) ∧
      Hid (Calls Tryz.prog 31 #[.pointer (some ⟨db, 0, none⟩), .pointer (some ⟨fb, 0, none⟩), .agg #[.int .i64 0, .int .i64 0, .int .i64 (kN : Nat), .string d]] W3 fun e W4 => e = .returned (.tuple #[]) ∧
        (W4.cell? ⟨db, 2, none⟩ = some (.int .i64 (D.used : Int)) ∧ W4.frozen? ⟨db, 2, none⟩ = false) ∧
        Hid (∃ O', DiskAt (W4.setCell ⟨db, 2, none⟩ (.int .i64 ((D.used + (kN + d.size - szO (D.now s)) : Nat) : Int))) O' db (D.wrote s kN d) ∧ Past w O (W4.setCell ⟨db, 2, none⟩ (.int .i64 ((D.used + (kN + d.size - szO (D.now s)) : Nat) : Int))) O')) := by
  have hdb := hc.disk.lt
  have hmb : mb < w.heap.size := hc.lt mb (by rw [hc.omb]; simp)
  obtain ⟨v1, v2, v3, v4, v5, v6, v7⟩ := id hv
  have hO0 : ∀ k, k < w.heap.size → own O w.heap.size w0.heap.size s k = O k := fun k hk => own_old hk
  have hdbf : db ≠ fb := fun e => by
    have := v6; rw [← e, hO0 db hdb, hc.odb] at this; cases this
  have hdbm : db ≠ mb := fun e => by
    obtain ⟨n, _, D0, hD0, _⟩ := hc.map
    have h1 := hc.disk
    unfold DB at h1
    obtain ⟨es, clock, h2, _⟩ := hD0
    rw [e, h2] at h1
    cases h1
  have hdbn : (v.now (szO (D.now s))).ownBlock ≠ some db := fun e => by
    have := v7 db (.inl e); rw [hO0 db hdb, hc.odb] at this; cases this
  have hd0 : DB w0 db mb (D.room : Int) (D.used : Int) (D.made : Int) D.fails := (h0 db hdb hdbm).trans hc.disk
  have hbf : b ≠ fb := fun e => by
    subst e
    unfold BoxC at hbox; unfold FB at v1
    rw [hbox] at v1
    have := Option.some.inj v1
    injection this with _ h2 _
    exact absurd h2 (by decide)
  have hbn : (v.now (szO (D.now s))).ownBlock ≠ some b := fun e => by
    rcases v2.2 with ⟨h1, _⟩ | ⟨g, cap, cur, h1, _, h2, _⟩
    · rw [h1] at e; cases e
    · rw [h1] at e
      have : g = b := by simpa [Value.ownBlock] using e
      subst this
      unfold BoxC at hbox
      rw [hbox] at h2
      have := Option.some.inj h2
      injection this with _ h2 _
      exact absurd h2 (by decide)
  have hcf : ∀ g, (v.chs (mine s D.chs).length).ownBlock = some g → g ≠ fb := fun g hg e => by
    subst e
    rcases v5.2 with ⟨h1, _⟩ | ⟨g1, cap, cur, h1, _, h2, _⟩
    · rw [h1] at hg; cases hg
    · rw [h1] at hg
      have : g1 = g := by simpa [Value.ownBlock] using hg
      subst this
      unfold FB at v1
      rw [v1] at h2
      have := Option.some.inj h2
      injection this with _ h2 _
      exact absurd h2 (by decide)
  have hcn : ∀ g, (v.chs (mine s D.chs).length).ownBlock = some g → (v.now (szO (D.now s))).ownBlock ≠ some g := fun g hg e => by
    rcases v2.2 with ⟨h1, _⟩ | ⟨g1, cap, cur, h1, _, h2, _⟩
    · rw [h1] at e; cases e
    · rcases v5.2 with ⟨h3, _⟩ | ⟨g2, cap2, cur2, h3, _, h4, _⟩
      · rw [h3] at hg; cases hg
      · rw [h1] at e; rw [h3] at hg
        have e1 : g1 = g := by simpa [Value.ownBlock] using e
        have e2 : g2 = g := by simpa [Value.ownBlock] using hg
        subst e1 e2
        rw [h2] at h4
        have := Option.some.inj h4
        injection this with _ h5 _
        exact absurd h5 (by decide)
  have cW := fwrite_calls fb (db + 1) (D.now s).isSome (D.safe s).isSome v.sh v.na v.sa v.ca v.nc v.sc (mine s D.chs).length v.cc ((D.now s).getD []) ((D.safe s).getD []) ⟨0, 0, kN, d⟩ w0
    (by rw [szO_getD, szO_getD]; exact v1) (by rw [szO_getD]; exact v2) (by rw [szO_getD]; exact v3) (by omega) (by rw [szO_getD, szO_getD]; exact v4) (by rw [szO_getD]; exact hk) (by rw [szO_getD]; exact hroom)
  rw [szO_getD, szO_getD] at cW
  refine cW.mono ?_
  intro e W3 hW
  obtain ⟨nv', sh', rfl, x1, x2, x3, x4, x5, x6, x7, x8, x9, x10⟩ := id hW
  have hb3 : BoxC W3 b ⟨0, 0, kN, d⟩ := (x10 b (Array.getElem?_eq_some_iff.1 (show w0.heap[b]? = _ from hbox)).1 hbf hbn).trans hbox
  refine ⟨rfl, hb3.cells, Lib.hid ?_⟩
  have hd3 : DB W3 db mb (D.room : Int) (D.used : Int) (D.made : Int) D.fails := (x10 db (by omega) hdbf hdbn).trans hd0
  have hC3 : OwnC W3 (db + 1) (v.chs (mine s D.chs).length) (mine s D.chs) := v5.keep fun g hg => x10 g (v5.own g hg).2 (hcf g hg) (hcn g hg)
  obtain ⟨na', nc', rfl, _⟩ := x2.form
  have cN := note_calls db mb fb (D.room : Int) (D.used : Int) D.made (by omega) D.fails true (D.safe s).isSome sh' na' v.sa v.ca _ nc' (szO (D.safe s)) v.sc (mine s D.chs).length v.cc (mine s D.chs) ⟨0, 0, kN, d⟩ (db + 1) W3 hd3 x1 hdbf hC3 (by omega) (Nat.lt_succ_self _) hcf (by omega)
  refine cN.mono ?_
  rintro e W4 ⟨rfl, hN⟩
  have hd4 : DB W4 db mb (D.room : Int) (D.used : Int) ((D.made + 1 : Nat) : Int) D.fails := by
    obtain ⟨_, y1, _⟩ := hN
    exact y1
  refine ⟨rfl, ⟨hd4.cells.1.2.2.1, hd4.cells.2 2⟩, Lib.hid ?_⟩
  exact ⟨_, write_done hc hf hs h0 h0s h0o hm0 hFs hFo hv hW _ sh' x1 hN⟩

end Go.Proofs.YtnhkpemajknfnaaGreatDoor.Disk

/-
  Contract of the disk's Write: the whole of it.
-/
namespace Go.Proofs.YtnhkpemajknfnaaGreatDoor.Disk
open Go Go.RowKit Go.Lib Go.Proofs.YtnhkpemajknfnaaGreatDoor.Law

/-- What a write leaves. -/
def WroteD (w : World) (O : Owner) (db : Nat) (D : DS) (s : ByteArray) (k : Int) (d : ByteArray) (e : Ending) (W : World) : Prop :=
  e = .returned (.int .i64 (D.writeN s k d.size : Nat)) ∧ ∃ O', DiskAt W O' db (D.write s k d) ∧ Past w O W O'

set_option maxRecDepth 100000 in
set_option maxHeartbeats 4000000 in
theorem write_old (w : World) (O : Owner) (db : Nat) (D : DS) (h : DiskAt w O db D) (hw : WF D) (hmade : D.made ≤ 4294967296) (s : ByteArray) (k : Nat) (dv : Value) (d : ByteArray) (hdl : d.size ≤ 140737488351232) (hI : Bytes w.heap.size w dv (bytesS d)) (h0 : D.writeN s (k : Nat) d.size = 0) (hin : s ∈ D.names) :
    Calls Tryz.prog 9 #[.pointer (some ⟨db, 0, none⟩), .string s, .int .i64 (k : Nat), dv] w fun e W => e = .returned (.int .i64 0) ∧ ∃ O', DiskAt W O' db (D.wrote s k d) ∧ Past w O W O' := by
  obtain ⟨hr, hk, hfit⟩ := writeN_zero h0
  rw [Int.toNat_natCast] at hk hfit
  obtain ⟨hfail, hright, _⟩ := refN_zero hr
  have hs := short_right hright
  obtain ⟨mb, F, hc, hf⟩ := id h
  obtain ⟨fb, hF, hfile⟩ := hf s hin
  obtain ⟨v, hv⟩ := hfile.vals
  obtain ⟨n, hn, hm⟩ := hc.map
  have hdb := hc.disk.lt
  have hmbl : mb < w.heap.size := hc.lt mb (by rw [hc.omb]; simp)
  have CR := Lib.hid (refusal_calls db mb _ _ _ _ s (by have := short_right hright; unfold Short at this; simp only [maxLen] at this; omega) (k : Int) w hc.disk)
  rw [hr] at CR
  have hnow := hw.nowLe s
  have hus := hw.usedLe
  have hrm := hw.room
  have hu2 : D.used ≤ 4611686018427387904 := Nat.le_trans hus (Nat.le_trans (Nat.mul_le_mul_right _ hmade) (by decide))
  have CK : Hid (∀ W, Below w.heap.size w W → ∃ (na sa ca : Option Addr) (nc sl sc cl cc : Nat) (nt st sh : Bool), Calls Tryz.prog 28 #[.pointer (some ⟨db, 0, none⟩), .string s] W (KnownOut W (.agg #[.bool nt, .slice na (szO (D.now s)) nc, .bool st, .slice sa sl sc, .bool sh, .slice ca cl cc]))) := Lib.hid fun W hB => by
    obtain ⟨v, ns, sl, cl, nt, st, ⟨_, rfl, _, _⟩, _, _, hc⟩ := known_at (h.below hB) hw s hs
    exact ⟨v.na, v.sa, v.ca, v.nc, sl, v.sc, cl, v.cc, nt, st, v.sh, hc⟩
  obtain ⟨dA, dcap, rfl⟩ := hI.form
  have hbl := bytesS_length d
  rw [hbl] at hI ⊢
  -- in a world that left all
  have HX : Hid (∀ W, Below w.heap.size w W → (W.cell? ⟨db, 0, none⟩ = some (.map (some mb)) ∧ W.cell? ⟨db, 1, none⟩ = some (.int .i64 (D.room : Int)) ∧ W.cell? ⟨db, 2, none⟩ = some (.int .i64 (D.used : Int))) ∧
      (Instr.lookup 60 (.map (some mb)) (.string s) false).run Tryz.prog W = .ok (.pointer (some ⟨fb, 0, none⟩)) W ∧
      (convert 29 9 (.slice dA d.size dcap)).run Tryz.prog W = .ok (.string d) W) := Lib.hid fun W hB => by
    have hd := hc.disk.below hB
    refine ⟨⟨hd.cells.1.1, hd.cells.1.2.1, hd.cells.1.2.2.1⟩, ?_, ?_⟩
    · have := (hm.at (W' := W) (hB.block _ hmbl)).look Tryz.underlying9 Tryz.underlying60 (zero_ptr _) hs
      rwa [hF] at this
    · have := run_string_bytes (P := Tryz.prog) W (src := 29) (dst := 9) Tryz.underlying29 Tryz.underlying5 Tryz.underlying9 (hI.below hB)
      rw [this]
      have e : str (bytesS d) = d := by
        unfold str bytesS
        rw [List.map_map]
        have : (UInt8.ofNat ∘ UInt8.toNat) = id := by funext x; simp
        rw [this, List.map_id]
      rw [e]
  have HC : Hid (∀ W0 b, Below w.heap.size w W0 → w.heap.size ≤ b → BoxC W0 b ⟨0, 0, k, d⟩ → Calls Tryz.prog 30 #[.pointer (some ⟨fb, 0, none⟩), .agg #[.int .i64 0, .int .i64 0, .int .i64 (k : Nat), .string d]] W0 fun e W3 => e = .returned (.tuple #[]) ∧
      (W3.cell? ⟨b, 0, none⟩ = some (.int .i64 0) ∧ W3.cell? ⟨b, 1, none⟩ = some (.int .i64 0) ∧ W3.cell? ⟨b, 2, none⟩ = some (.int .i64 (k : Nat)) ∧ W3.cell? ⟨b, 3, none⟩ = some (.string d)) ∧
      Hid (Calls Tryz.prog 31 #[.pointer (some ⟨db, 0, none⟩), .pointer (some ⟨fb, 0, none⟩), .agg #[.int .i64 0, .int .i64 0, .int .i64 (k : Nat), .string d]] W3 fun e W4 => e = .returned (.tuple #[]) ∧
        (W4.cell? ⟨db, 2, none⟩ = some (.int .i64 (D.used : Int)) ∧ W4.frozen? ⟨db, 2, none⟩ = false) ∧
        Hid (∃ O', DiskAt (W4.setCell ⟨db, 2, none⟩ (.int .i64 ((D.used + (k + d.size - szO (D.now s)) : Nat) : Int))) O' db (D.wrote s k d) ∧ Past w O (W4.setCell ⟨db, 2, none⟩ (.int .i64 ((D.used + (k + d.size - szO (D.now s)) : Nat) : Int))) O'))) := Lib.hid fun W0 b hB hb hbox => by
    have hv0 : FileV W0 (own O w.heap.size W0.heap.size s) (db + 1) s fb (D.now s) (D.safe s) (mine s D.chs) v := by
      obtain ⟨v1, v2, v3, v4, v5, v6, v7⟩ := hv
      refine ⟨v1.below hB, v2.below hB, v3.below hB, v4, v5.keep fun g hg => hB.block g (v5.own g hg).2, ?_, fun g hg => ?_⟩
      · rw [own_old v1.lt]; exact v6
      · have hgl : g < w.heap.size := by
          rcases hg with hg | hg | hg
          · exact (v2.own g hg).2
          · exact (v3.own g hg).2
          · exact (v5.own g hg).2
        rw [own_old hgl]; exact v7 g hg
    exact write_chain (F' := F) hmade hc (fun x hx _ => hf x hx) hs (fun k hk _ => hB.block k hk) hB.size ⟨hB.os, hB.tape, hB.output⟩ ⟨n, by omega, hm.at (hB.block _ hmbl)⟩ hF (fun _ _ => rfl) hv0 hk (by omega) (hw.mineLe s) hbox hb
  obtain ⟨ns, hns⟩ : ∃ ns, szO (D.now s) = ns := ⟨_, rfl⟩
  rw [hns] at CK HC hk hnow hfit
  obtain ⟨dl, hdl2⟩ : ∃ dl, d.size = dl := ⟨_, rfl⟩
  rw [hdl2] at HX HC hfit hdl ⊢
  obtain ⟨u, hu1⟩ : ∃ u, D.used = u := ⟨_, rfl⟩
  obtain ⟨r, hr1⟩ : ∃ r, D.room = r := ⟨_, rfl⟩
  rw [hu1] at HX HC hfit hu2
  rw [hr1] at HX hfit hrm
  obtain ⟨more, hmore⟩ : ∃ more, k + dl - ns = more := ⟨_, rfl⟩
  rw [hmore] at HC
  have HBN : Hid (∀ n m W, Below n w W → Below n w (W.drewN m)) := Lib.hid fun n m W hB => below_drewN hB
  clear hI hbl hmbl hdb hm hn hv hfile hF hf hc h hw hs hright hfail hr h0 hin hus hmade hdl2 hu1 hr1 hns
  by_cases hpos : 0 < more
  · have hroom : u + more ≤ r := by have := hfit (by omega); omega
    have e1 : ((k : Int) + (dl : Int) - (ns : Int)) = (more : Int) := by omega
    have g0 : decide (0 < more) = true := by simp; omega
    have g1 : IntKind.i64.wrap ((u : Int) + (more : Int)) = ((u + more : Nat) : Int) := by rw [IntKind.wrap_i64]; omega
    have g2 : decide (r < u + more) = false := by simp; omega
    clear hfit hmore
    go_enter Tryz.func9, Tryz.ntmps9
    go_wp2_with fail
    refine CR.out.mono ?_
    rintro e W ⟨rfl, hB⟩
    go_wp2_with fail
    obtain ⟨na, sa, ca, nc, sl, sc, cl, cc, nt, st, sh, cK⟩ := CK.out W hB
    have CKK := Lib.hid cK
    clear cK
    refine CKK.out.mono ?_
    rintro e W2 ⟨rfl, hB2⟩
    have q0 := field_now nt st sh na sa ca ns nc sl sc cl cc
    have q1 := field_bytes nt na ns nc
    have hBB := hB.trans (hB2.mono hB.size)
    have HBB := Lib.hid hBB
    obtain ⟨⟨k0, k1, k2⟩, _, _⟩ := HX.out W2 hBB
    clear hB hB2 hBB
    go_wp2_with fail
    go_quiet (fail)
    have HB5 := Lib.hid (below_drewN (m := nq) HBB.out)
    clear HBB
    generalize W2.drewN nq = W5 at HB5 ⊢
    obtain ⟨⟨p0, _, _⟩, _, _⟩ := HX.out W5 HB5.out
    go_wp2_with (first | (refine wpList_lookup_ran (o := ⟨some 57, _, _, _, _, _⟩) rfl _ _ _ _ rfl rfl rfl (HX.out _ HB5.out).2.1 ?_) | (refine wpList_exec_ran (o := ⟨some 71, _, _, _, _, _⟩) rfl (run_conv (HX.out _ HB5.out).2.2) ?_))
    have hB6 := HB5.out.alloc HB5.out.size (.cells #[.int .i64 0, .int .i64 0, .int .i64 (k : Nat), .string d] 73)
    refine (HC.out _ W5.heap.size hB6 HB5.out.size (heap_alloc_new W5 _)).mono ?_
    rintro e W6 ⟨rfl, ⟨r0, r1, r2, r3⟩, HN⟩
    go_wp2_with fail
    refine HN.out.mono ?_
    rintro e W7 ⟨rfl, ⟨s0, s1⟩, HF⟩
    go_wp2_with fail
    go_ret
    exact ⟨rfl, HF.out⟩
  · obtain rfl : more = 0 := by omega
    have hle : (k : Int) + (dl : Int) ≤ (ns : Int) := by omega
    have g0 : decide ((0 : Int) < max ((k : Int) + (dl : Int) - (ns : Int)) 0) = false := by simp; omega
    have g1 : max ((k : Int) + (dl : Int) - (ns : Int)) 0 = 0 := by omega
    clear hfit hmore hpos
    go_enter Tryz.func9, Tryz.ntmps9
    go_wp2_with fail
    refine CR.out.mono ?_
    rintro e W ⟨rfl, hB⟩
    go_wp2_with fail
    obtain ⟨na, sa, ca, nc, sl, sc, cl, cc, nt, st, sh, cK⟩ := CK.out W hB
    have CKK := Lib.hid cK
    clear cK
    refine CKK.out.mono ?_
    rintro e W2 ⟨rfl, hB2⟩
    have q0 := field_now nt st sh na sa ca ns nc sl sc cl cc
    have q1 := field_bytes nt na ns nc
    have hBB := hB.trans (hB2.mono hB.size)
    have HBB := Lib.hid hBB
    obtain ⟨⟨k0, k1, k2⟩, _, _⟩ := HX.out W2 hBB
    clear hB hB2 hBB
    go_wp2_with fail
    go_quiet (fail)
    have HB5 := Lib.hid (below_drewN (m := nq) HBB.out)
    clear HBB
    generalize W2.drewN nq = W5 at HB5 ⊢
    obtain ⟨⟨p0, _, _⟩, _, _⟩ := HX.out W5 HB5.out
    go_wp2_with (first | (refine wpList_lookup_ran (o := ⟨some 57, _, _, _, _, _⟩) rfl _ _ _ _ rfl rfl rfl (HX.out _ HB5.out).2.1 ?_) | (refine wpList_exec_ran (o := ⟨some 71, _, _, _, _, _⟩) rfl (run_conv (HX.out _ HB5.out).2.2) ?_))
    have hB6 := HB5.out.alloc HB5.out.size (.cells #[.int .i64 0, .int .i64 0, .int .i64 (k : Nat), .string d] 73)
    refine (HC.out _ W5.heap.size hB6 HB5.out.size (heap_alloc_new W5 _)).mono ?_
    rintro e W6 ⟨rfl, ⟨r0, r1, r2, r3⟩, HN⟩
    go_wp2_with fail
    refine HN.out.mono ?_
    rintro e W7 ⟨rfl, ⟨s0, s1⟩, HF⟩
    go_wp2_with fail
    go_ret
    exact ⟨rfl, HF.out⟩


end Go.Proofs.YtnhkpemajknfnaaGreatDoor.Disk
