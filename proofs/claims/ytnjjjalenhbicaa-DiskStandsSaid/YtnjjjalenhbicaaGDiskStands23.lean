/-
  Put together out of texts of one chain: what they hold stands ahead of each.
-/
import Derived.Test.YtnjjjalenhbicaaGDiskStands19
/-
  A disk of a law's own: what each call makes of it, where nothing of what lay before the law has turned.
-/
namespace Go.Proofs.Ytnjjjalenhbicaa.Disk
open Go Go.RowKit Go.Lib Go.Proofs.Ytnjjjalenhbicaa.Law

theorem bytesS_str {bs : List Nat} (h : ∀ x ∈ bs, x < 256) : bytesS (str bs) = bs := by
  unfold bytesS str
  rw [List.map_map]
  conv => rhs; rw [← List.map_id bs]
  apply List.map_congr_left
  intro x hx
  have := h x hx
  simp [Nat.mod_eq_of_lt this]
theorem str_size (bs : List Nat) : (str bs).size = bs.length := by
  unfold str
  show (bs.map UInt8.ofNat).toArray.size = _
  simp

/-- The disk D, none of whose blocks lay before w. -/
def Dk (w : World) (db : Nat) (D : DS) (W : World) : Prop := ∃ O, DiskAt W O db D ∧ (∀ k, k < w.heap.size → O k = none) ∧ Below w.heap.size w W ∧ WF D

theorem Dk.below {w W W' : World} {db : Nat} {D : DS} (h : Dk w db D W) (hB : Below W.heap.size W W') : Dk w db D W' := by
  obtain ⟨O, h1, h2, h3, h4⟩ := h
  exact ⟨O, h1.below hB, h2, h3.trans (hB.mono h3.size), h4⟩
theorem Dk.low {w W : World} {db : Nat} {D : DS} (h : Dk w db D W) : Below w.heap.size w W := by obtain ⟨O, _, _, h3, _⟩ := h; exact h3
theorem Dk.wf {w W : World} {db : Nat} {D : DS} (h : Dk w db D W) : WF D := by obtain ⟨O, _, _, _, h4⟩ := h; exact h4
theorem Dk.size {w W : World} {db : Nat} {D : DS} (h : Dk w db D W) : w.heap.size ≤ W.heap.size := h.low.size
theorem Dk.past {w W W' : World} {O O' : Owner} (h2 : ∀ k, k < w.heap.size → O k = none) (h3 : Below w.heap.size w W) (hp : Past W O W' O') : (∀ k, k < w.heap.size → O' k = none) ∧ Below w.heap.size w W' :=
  ⟨hp.low h2 h3.size, h3.trans (hp.below h2 h3.size)⟩

theorem new_dk (room : Nat) (hr : room ≤ 1073741824) (w0 w : World) (hB : Below w0.heap.size w0 w) : Calls Try.prog 9 #[.int .i64 (room : Nat)] w fun e W => ∃ db, e = .returned (.tuple #[.pointer (some ⟨db, 0, none⟩), .int .i64 0]) ∧ Dk w0 db (DS.fresh room) W := by
  refine (new_calls (room : Nat) w ⟨by omega, by omega⟩).mono ?_
  rintro e W ⟨db, mb, rfl, h1, h2, h3, h4, h5, h6⟩
  have hs := hB.size
  refine ⟨db, rfl, _, DiskAt.made h4 h5 h2 h1, fun k hk => if_neg (by omega), hB.trans (h6.mono hs), WF.fresh room hr⟩

theorem Dk.write {w W : World} {db : Nat} {D : DS} (h : Dk w db D W) (hmade : D.made ≤ 4294967296) (s : ByteArray) (hs63 : s.size ≤ 9223372036854775807) (k : Int) (hk63 : k ≤ 9223372036854775807) (dv : Value) (bs : List Nat) (hdl : bs.length ≤ 140737488351232) (hI : Bytes W.heap.size W dv bs) :
    Calls Try.prog 21 #[.pointer (some ⟨db, 0, none⟩), .string s, .int .i64 k, dv] W fun e W' => e = .returned (.int .i64 (D.writeN s k bs.length : Nat)) ∧ Dk w db (D.write s k (str bs)) W' := by
  obtain ⟨O, h1, h2, h3, h4⟩ := h
  have hb := bytesS_str hI.lt
  refine (write_calls W O db D h1 h4 hmade s hs63 k hk63 dv (str bs) (by rw [str_size]; exact hdl) (by rw [hb]; exact hI)).mono ?_
  rintro e W' ⟨rfl, O', h5, h6⟩
  rw [str_size]
  obtain ⟨h7, h8⟩ := Dk.past h2 h3 h6
  exact ⟨rfl, O', h5, h7, h8, h4.write s k (str bs)⟩

theorem Dk.sync {w W : World} {db : Nat} {D : DS} (h : Dk w db D W) (s : ByteArray) (hs63 : s.size ≤ 9223372036854775807) :
    Calls Try.prog 13 #[.pointer (some ⟨db, 0, none⟩), .string s] W fun e W' => e = .returned (.int .i64 (D.syncN s : Nat)) ∧ Dk w db (D.sync s) W' := by
  obtain ⟨O, h1, h2, h3, h4⟩ := h
  refine (sync_calls W O db D h1 h4 s hs63).mono ?_
  rintro e W' ⟨rfl, O', h5, h6⟩
  obtain ⟨h7, h8⟩ := Dk.past h2 h3 h6
  exact ⟨rfl, O', h5, h7, h8, h4.sync s⟩

/-- Picks that lay before the law, or have come since the disk stood. -/
theorem Dk.crash {w W0 W : World} {db : Nat} {D : DS} (h : Dk w db D W0) (hB : Below W0.heap.size W0 W) (hmade : D.made ≤ 4294967296) (pv : Value) (picks : List Int) (hp : Ints (fun b => b < W.heap.size ∧ (b < w.heap.size ∨ W0.heap.size ≤ b)) W pv picks) :
    Calls Try.prog 15 #[.pointer (some ⟨db, 0, none⟩), pv] W fun e W' => e = .returned (.tuple #[]) ∧ Dk w db (D.crash picks) W' := by
  obtain ⟨O, h1, h2, h3, h4⟩ := h
  have hB3 := h3.trans (hB.mono h3.size)
  have hp2 : Ints (fun b => b < W.heap.size ∧ O b = none) W pv picks := by
    obtain ⟨A, cap, h5, h6, h7⟩ := hp
    refine ⟨A, cap, h5, h6, fun hl => ?_⟩
    obtain ⟨b, off, h8, ⟨h9, h10⟩, h11⟩ := h7 hl
    refine ⟨b, off, h8, ⟨h9, ?_⟩, h11⟩
    rcases h10 with h10 | h10
    · exact h2 b h10
    · exact Classical.byContradiction fun e => by have := h1.lt b e; omega
  refine (crash_calls W O db D (h1.below hB) h4 hmade pv picks hp2).mono ?_
  rintro e W' ⟨rfl, O', h5, h6⟩
  obtain ⟨h7, h8⟩ := Dk.past h2 hB3 h6
  exact ⟨rfl, O', h5, h7, h8, h4.crash picks⟩

theorem Dk.read {w W : World} {db : Nat} {D : DS} (h : Dk w db D W) (s : ByteArray) (hs : Short s) :
    Calls Try.prog 14 #[.pointer (some ⟨db, 0, none⟩), .string s] W fun e W' => ReadD W (D.now s) e W' ∧ Dk w db D W' := by
  obtain ⟨O, h1, _, _, h4⟩ := id h
  refine (readD_calls W O db D h1 h4 s hs).mono ?_
  intro e W' hr
  obtain ⟨v, _, _, hB⟩ := id hr
  exact ⟨hr, h.below hB⟩
theorem Dk.durable {w W : World} {db : Nat} {D : DS} (h : Dk w db D W) (s : ByteArray) (hs : Short s) :
    Calls Try.prog 16 #[.pointer (some ⟨db, 0, none⟩), .string s] W fun e W' => ReadD W (D.safe s) e W' ∧ Dk w db D W' := by
  obtain ⟨O, h1, _, _, h4⟩ := id h
  refine (durableD_calls W O db D h1 h4 s hs).mono ?_
  intro e W' hr
  obtain ⟨v, _, _, hB⟩ := id hr
  exact ⟨hr, h.below hB⟩
theorem Dk.pending {w W : World} {db : Nat} {D : DS} (h : Dk w db D W) (hmade : D.made ≤ 4294967296) :
    Calls Try.prog 28 #[.pointer (some ⟨db, 0, none⟩)] W fun e W' => e = .returned (.int .i64 (D.chs.length : Nat)) ∧ Dk w db D W' := by
  obtain ⟨O, h1, _, _, h4⟩ := id h
  refine (pending_calls W O db D h1 h4 hmade).mono ?_
  rintro e W' ⟨rfl, hB⟩
  exact ⟨rfl, h.below hB⟩

end Go.Proofs.Ytnjjjalenhbicaa.Disk

/-
  A change that leaves less of a file (a cut, a removal): the disk behind it, as data and in memory.
-/
namespace Go.Proofs.Ytnjjjalenhbicaa.Disk
open Go Go.RowKit Go.Lib Go.Proofs.Ytnjjjalenhbicaa.Law

/-- The disk behind a change that leaves o of a file. -/
def DS.chg (D : DS) (s : ByteArray) (o : Option (List Nat)) (kind pos : Nat) : DS :=
  { D with used := D.used - (szO (D.now s) - szO o), made := D.made + 1, now := upd D.now s o, chs := D.chs ++ [(s, ⟨D.made, kind, pos, ⟨#[]⟩⟩)] }
theorem cutD_chg (D : DS) (s : ByteArray) (k : Nat) (hk : k ≤ szO (D.now s)) : D.cutD s k = D.chg s (some (((D.now s).getD []).take k)) 1 k := by
  unfold DS.cutD DS.chg
  have : szO (some (((D.now s).getD []).take k)) = k := by
    show (List.take _ _).length = k
    rw [List.length_take, szO_getD]; omega
  rw [this]
theorem removeD_chg (D : DS) (s : ByteArray) : D.removeD s = D.chg s none 2 0 := rfl

theorem WF.chg {D : DS} (h : WF D) {s : ByteArray} {o : Option (List Nat)} {kind pos : Nat} (hs : s ∈ D.names) (ho : szO o ≤ szO (D.now s)) (hk : kind ≤ 2) (hp : pos ≤ 1073741824) : WF (D.chg s o kind pos) := by
  have hsz := h.nowLe s
  constructor
  · exact h.nodup
  · intro x
    show x ∈ D.names ↔ upd D.now s o x ≠ none ∨ D.safe x ≠ none ∨ ∃ c, (x, c) ∈ D.chs ++ [(s, _)]
    by_cases hx : x = s
    · subst hx
      exact ⟨fun _ => .inr (.inr ⟨_, List.mem_append_right _ (List.mem_singleton.2 rfl)⟩), fun _ => hs⟩
    · rw [upd_other _ _ hx, h.names x]
      have e1 : (∃ c, (x, c) ∈ D.chs ++ [(s, (⟨D.made, kind, pos, ⟨#[]⟩⟩ : Chg))]) ↔ ∃ c, (x, c) ∈ D.chs := by
        constructor
        · rintro ⟨c, hc⟩
          rcases List.mem_append.1 hc with hc | hc
          · exact ⟨c, hc⟩
          · simp only [List.mem_singleton, Prod.mk.injEq] at hc
            exact absurd hc.1 hx
        · rintro ⟨c, hc⟩
          exact ⟨c, List.mem_append_left _ hc⟩
      rw [e1]
  · exact h.right
  · show D.names.length ≤ D.made + 1
    have := h.count; omega
  · intro x b hb
    have hb' : upd D.now s o x = some b := hb
    by_cases hx : x = s
    · subst hx
      rw [upd_same] at hb'
      subst hb'
      exact Nat.le_trans ho hsz
    · rw [upd_other _ _ hx] at hb'; exact h.nowSz x b hb'
  · exact h.safeSz
  · intro x hx
    rcases List.mem_append.1 (show x ∈ D.chs ++ [_] from hx) with hx | hx
    · exact h.chSz x hx
    · simp only [List.mem_singleton] at hx
      subst hx
      show pos + 0 ≤ _; omega
  · refine List.pairwise_append.2 ⟨h.asc, by simp, fun a ha b hb => ?_⟩
    simp only [List.mem_singleton] at hb
    subst hb; exact h.below a ha
  · intro x hx
    show x.2.n < D.made + 1
    rcases List.mem_append.1 (show x ∈ D.chs ++ [_] from hx) with hx | hx
    · have := h.below x hx; omega
    · simp only [List.mem_singleton] at hx
      subst hx; exact Nat.lt_succ_self _
  · intro x hx
    rcases List.mem_append.1 (show x ∈ D.chs ++ [_] from hx) with hx | hx
    · exact h.kind x hx
    · simp only [List.mem_singleton] at hx
      subst hx; exact hk
  · show (D.chs ++ [_]).length ≤ D.made + 1
    have := h.len
    simp; exact this
  · exact h.room
  · show D.used - (szO (D.now s) - szO o) = total D.names (upd D.now s o)
    have hu := h.used
    have h1 := total_in D.now s o D.names h.nodup hs
    have h2 := total_ge D.now s D.names hs
    omega

/-- A file's block with another content. -/
def setNow (W : World) (fb : Nat) (there : Bool) (v : Value) : World := (W.setCell ⟨fb, 0, none⟩ (.bool there)).setCell ⟨fb, 1, none⟩ v
theorem setNow_other {W : World} {fb k : Nat} {there : Bool} {v : Value} (h : k ≠ fb) : (setNow W fb there v).heap[k]? = W.heap[k]? := by
  unfold setNow
  rw [Below.heap_setCell _ _ _ _ h, Below.heap_setCell _ _ _ _ h]
theorem setNow_size (W : World) (fb : Nat) (there : Bool) (v : Value) : (setNow W fb there v).heap.size = W.heap.size := by simp [setNow, World.setCell]
theorem setNow_file {W : World} {fb : Nat} {nt st sh there : Bool} {nv sv cv v : Value} (h : FB W fb nt nv st sv sh cv) : FB (setNow W fb there v) fb there v st sv sh cv := by
  have h1 := block_set h 0 (.bool there)
  have h2 := block_set h1 1 v
  exact h2.trans (by simp)

/-- The disk in memory behind such a change. -/
theorem chg_done {w w0 W4 : World} {O : Owner} {db mb fb kind pos : Nat} {D : DS} {F : ByteArray → Option Nat} {s : ByteArray} {v : KV} {o : Option (List Nat)} {nv' : Value}
    (hc : Core w O db mb D F) (hf : ∀ x ∈ D.names, ∃ fb, F x = some fb ∧ FileAt w O (db + 1) x fb (D.now x) (D.safe x) (mine x D.chs))
    (hB : Below w.heap.size w w0) (hFs : F s = some fb) (hv : FileV w O (db + 1) s fb (D.now s) (D.safe s) (mine s D.chs) v)
    (hbuf : Buf w (db + 1) 5 nv' (o.getD [])) (hown : ∀ g, nv'.ownBlock = some g → (v.now (szO (D.now s))).ownBlock = some g) (hsh : Share v.sh nv' (v.safe (szO (D.safe s))) (szO o) (szO (D.safe s)))
    (hN : Noted (setNow w0 fb o.isSome nv') db mb fb (D.room : Int) (D.used : Int) D.made D.fails o.isSome (D.safe s).isSome v.sh nv' (v.safe (szO (D.safe s))) (v.chs (mine s D.chs).length) (mine s D.chs) ⟨0, kind, pos, ⟨#[]⟩⟩ (db + 1) W4) :
    ∃ O', DiskAt (W4.setCell ⟨db, 2, none⟩ (.int .i64 ((D.used - (szO (D.now s) - szO o) : Nat) : Int))) O' db (D.chg s o kind pos) ∧
      Past w O (W4.setCell ⟨db, 2, none⟩ (.int .i64 ((D.used - (szO (D.now s) - szO o) : Nat) : Int))) O' := by
  obtain ⟨u, hu⟩ : ∃ u : Value, .int .i64 ((D.used - (szO (D.now s) - szO o) : Nat) : Int) = u := ⟨_, rfl⟩
  rw [hu]
  have hdb := hc.disk.lt
  have hmb : mb < w.heap.size := hc.lt mb (by rw [hc.omb]; simp)
  obtain ⟨v1, v2, v3, v4, v5, v6, v7⟩ := hv
  obtain ⟨cv', y1, y2, y3, y4, y5, y6, y7, y8, y9⟩ := hN
  have hfb := v1.lt
  have hdbf : db ≠ fb := fun e => by rw [← e, hc.odb] at v6; cases v6
  have hmbf : mb ≠ fb := fun e => by rw [← e, hc.omb] at v6; cases v6
  have hdbm : db ≠ mb := fun e => by
    obtain ⟨n, _, hm⟩ := hc.map
    obtain ⟨a, c, h2⟩ := hm.isMap
    have h1 := hc.disk
    unfold DB at h1
    rw [e, h2] at h1
    cases h1
  have hs0 := setNow_size w0 fb o.isSome nv'
  have hoth := fun k (hk : k ≠ fb) => setNow_other (W := w0) (there := o.isSome) (v := nv') hk
  have h3 : (setNow w0 fb o.isSome nv').os = w0.os ∧ (setNow w0 fb o.isSome nv').tape = w0.tape ∧ (setNow w0 fb o.isSome nv').output = w0.output := ⟨rfl, rfl, rfl⟩
  rw [hs0] at y8 y9
  rw [h3.1] at y5
  rw [h3.2.1] at y6
  rw [h3.2.2] at y7
  have hBs := hB.size
  have hset : ∀ k, k ≠ db → (W4.setCell ⟨db, 2, none⟩ u).heap[k]? = W4.heap[k]? := fun k hk => Below.heap_setCell _ _ _ _ hk
  have hsz : (W4.setCell ⟨db, 2, none⟩ u).heap.size = W4.heap.size := by simp [World.setCell]
  have hkeep : ∀ k, k < w.heap.size → k ≠ db → k ≠ fb → (v.chs (mine s D.chs).length).ownBlock ≠ some k → (W4.setCell ⟨db, 2, none⟩ u).heap[k]? = w.heap[k]? := fun k hk h1 h2 h4 => by
    rw [hset k h1, y9 k (by omega) h1 h2 h4, hoth k h2, hB.block k hk]
  have hcmb : (v.chs (mine s D.chs).length).ownBlock ≠ some mb := fun e => by
    have := v7 mb (.inr (.inr e)); rw [hc.omb] at this; cases this
  -- a row of bytes lies in no row of changes
  have hcn : ∀ {b1 : Nat} {x : Value} {bs : List Nat}, Buf w b1 5 x bs → ∀ g, x.ownBlock = some g → (v.chs (mine s D.chs).length).ownBlock ≠ some g := fun {b1 x bs} hx g hg e => by
    rcases hx.2 with ⟨h1, _⟩ | ⟨g1, cap, cur, h1, _, h2, _⟩
    · rw [h1] at hg; cases hg
    · rcases v5.2 with ⟨h3, _⟩ | ⟨g2, cap2, cur2, h3, _, h4, _⟩
      · rw [h3] at e; cases e
      · rw [h1] at hg; rw [h3] at e
        have e1 : g1 = g := by simpa [Value.ownBlock] using hg
        have e2 : g2 = g := by simpa [Value.ownBlock] using e
        subst e1 e2
        rw [h2] at h4
        have := Option.some.inj h4
        injection this with _ h5 _
        exact absurd h5 (by decide)
  have hB4 : ∀ {b1 : Nat} {x : Value} {bs : List Nat}, Buf w (db + 1) 5 x bs → Buf (W4.setCell ⟨db, 2, none⟩ u) (db + 1) 5 x bs := fun {b1 x bs} hx => hx.keep fun g hg => by
    have h1 := hx.own g hg
    exact hkeep g h1.2 (by omega) (fun e => buf_not_file v1 hx (e ▸ hg)) (hcn hx g hg)
  refine ⟨own O w.heap.size (W4.setCell ⟨db, 2, none⟩ u).heap.size s, DiskAt.turned (s := s) (fb := fb) (F' := F) hc (fun x hx _ => hf x hx) ?_ ?_ ?_ (by rw [hsz]; omega) ?_ ?_ ?_ (y5.symm.trans hB.os) (y6.symm.trans hB.tape) (y7.symm.trans hB.output)⟩
  · show (W4.setCell ⟨db, 2, none⟩ u).heap[db]? = some (.cells #[.map (some mb), .int .i64 (D.room : Int), .int .i64 ((D.used - (szO (D.now s) - szO o) : Nat) : Int), .int .i64 ((D.made + 1 : Nat) : Int), .bool D.fails] 64 (0, 0))
    rw [hu]
    exact (block_set y1 2 u).trans (by simp)
  · obtain ⟨n, hn, hm⟩ := hc.map
    exact ⟨n, by show n ≤ D.made + 1; omega, hm.at (hkeep mb hmb (Ne.symm hdbm) hmbf hcmb)⟩
  · exact hc.dom
  · intro k hk ho
    obtain ⟨h1, h2⟩ := not_of_owner ho
    exact hkeep k hk (fun e => h1 (e ▸ hc.odb)) (fun e => h2 (e ▸ v6)) (fun e => h2 (v7 k (.inr (.inr e))))
  · intro x hx hxs
    refine ⟨hx, rfl, upd_other _ _ hxs, rfl, ?_⟩
    show mine x (D.chs ++ [(s, _)]) = _
    rw [mine_append, mine_one_other _ (Ne.symm hxs), List.append_nil]
  · intro _
    refine ⟨hFs, ?_⟩
    have e1 : (D.chg s o kind pos).now s = o := upd_same _ _ _
    have e2 : mine s (D.chg s o kind pos).chs = mine s D.chs ++ [⟨D.made, kind, pos, ⟨#[]⟩⟩] := by
      show mine s (D.chs ++ [(s, _)]) = _
      rw [mine_append, mine_one]
    rw [e1, e2]
    refine ⟨v.sh, nv', v.safe (szO (D.safe s)), cv', (hset fb (Ne.symm hdbf)).trans y2, hB4 (b1 := 0) hbuf, hB4 (b1 := 0) v3, by rw [szO_getD, szO_getD]; exact hsh, y3.keep (fun g hg => hset g (by have := (y3.own g hg).1; omega)), ?_, ?_⟩
    · rw [own_old hfb]; exact v6
    · rintro g (hg | hg | hg)
      · rw [own_old (v2.own g (hown g hg)).2]; exact v7 g (.inl (hown g hg))
      · rw [own_old (v3.own g hg).2]; exact v7 g (.inr (.inl hg))
      · rcases y4 with h1 | ⟨g2, h1, h2⟩
        · rw [h1] at hg; rw [own_old (v5.own g hg).2]; exact v7 g (.inr (.inr hg))
        · rw [hg] at h1
          have : g = g2 := by simpa using h1
          rw [hs0] at h2
          exact own_new (by omega) (by rw [hsz]; exact (y3.own g hg).2)

end Go.Proofs.Ytnjjjalenhbicaa.Disk
