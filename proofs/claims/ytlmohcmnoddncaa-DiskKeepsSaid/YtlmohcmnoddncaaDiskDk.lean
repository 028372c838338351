/-
  A disk of a law's own: what each call makes of it, where nothing of what lay before the law has turned.
-/
import Derived.Test.YtlmohcmnoddncaaDiskCrash
namespace Go.Proofs.Ytlmohcmnoddncaa.Disk
open Go Go.RowKit Go.Lib Go.Proofs.Ytlmohcmnoddncaa.Law

theorem bytesS_str {bs : List Nat} (h : ∀ x ∈ bs, x < 256) : bytesS (str bs) = bs := by
  unfold bytesS str
  rw [List.map_map]
  conv => rhs; rw [← List.map_id bs]
  apply List.map_congr_left
  intro x hx
  have := h x hx
  simp [Nat.mod_eq_of_lt this]
theorem str_size (bs : List Nat) : (str bs).size = bs.length := by
  unfold str
  show (bs.map UInt8.ofNat).toArray.size = _
  simp

/-- The disk D, none of whose blocks lay before w. -/
def Dk (w : World) (db : Nat) (D : DS) (W : World) : Prop := ∃ O, DiskAt W O db D ∧ (∀ k, k < w.heap.size → O k = none) ∧ Below w.heap.size w W ∧ WF D

theorem Dk.below {w W W' : World} {db : Nat} {D : DS} (h : Dk w db D W) (hB : Below W.heap.size W W') : Dk w db D W' := by
  obtain ⟨O, h1, h2, h3, h4⟩ := h
  exact ⟨O, h1.below hB, h2, h3.trans (hB.mono h3.size), h4⟩
theorem Dk.low {w W : World} {db : Nat} {D : DS} (h : Dk w db D W) : Below w.heap.size w W := by obtain ⟨O, _, _, h3, _⟩ := h; exact h3
theorem Dk.wf {w W : World} {db : Nat} {D : DS} (h : Dk w db D W) : WF D := by obtain ⟨O, _, _, _, h4⟩ := h; exact h4
theorem Dk.size {w W : World} {db : Nat} {D : DS} (h : Dk w db D W) : w.heap.size ≤ W.heap.size := h.low.size
theorem Dk.past {w W W' : World} {O O' : Owner} (h2 : ∀ k, k < w.heap.size → O k = none) (h3 : Below w.heap.size w W) (hp : Past W O W' O') : (∀ k, k < w.heap.size → O' k = none) ∧ Below w.heap.size w W' :=
  ⟨hp.low h2 h3.size, h3.trans (hp.below h2 h3.size)⟩

theorem new_dk (room : Nat) (hr : room ≤ 1073741824) (w0 w : World) (hB : Below w0.heap.size w0 w) : Calls Try.prog 9 #[.int .i64 (room : Nat)] w fun e W => ∃ db, e = .returned (.tuple #[.pointer (some ⟨db, 0, none⟩), .int .i64 0]) ∧ Dk w0 db (DS.fresh room) W := by
  refine (new_calls (room : Nat) w ⟨by omega, by omega⟩).mono ?_
  rintro e W ⟨db, mb, rfl, h1, h2, h3, h4, h5, h6⟩
  have hs := hB.size
  refine ⟨db, rfl, _, DiskAt.made h4 h5 h2 h1, fun k hk => if_neg (by omega), hB.trans (h6.mono hs), WF.fresh room hr⟩

theorem Dk.write {w W : World} {db : Nat} {D : DS} (h : Dk w db D W) (hmade : D.made ≤ 4294967296) (s : ByteArray) (hs63 : s.size ≤ 9223372036854775807) (k : Int) (hk63 : k ≤ 9223372036854775807) (dv : Value) (bs : List Nat) (hdl : bs.length ≤ 140737488351232) (hI : Bytes W.heap.size W dv bs) :
    Calls Try.prog 21 #[.pointer (some ⟨db, 0, none⟩), .string s, .int .i64 k, dv] W fun e W' => e = .returned (.int .i64 (D.writeN s k bs.length : Nat)) ∧ Dk w db (D.write s k (str bs)) W' := by
  obtain ⟨O, h1, h2, h3, h4⟩ := h
  have hb := bytesS_str hI.lt
  refine (write_calls W O db D h1 h4 hmade s hs63 k hk63 dv (str bs) (by rw [str_size]; exact hdl) (by rw [hb]; exact hI)).mono ?_
  rintro e W' ⟨rfl, O', h5, h6⟩
  rw [str_size]
  obtain ⟨h7, h8⟩ := Dk.past h2 h3 h6
  exact ⟨rfl, O', h5, h7, h8, h4.write s k (str bs)⟩

theorem Dk.sync {w W : World} {db : Nat} {D : DS} (h : Dk w db D W) (s : ByteArray) (hs63 : s.size ≤ 9223372036854775807) :
    Calls Try.prog 13 #[.pointer (some ⟨db, 0, none⟩), .string s] W fun e W' => e = .returned (.int .i64 (D.syncN s : Nat)) ∧ Dk w db (D.sync s) W' := by
  obtain ⟨O, h1, h2, h3, h4⟩ := h
  refine (sync_calls W O db D h1 h4 s hs63).mono ?_
  rintro e W' ⟨rfl, O', h5, h6⟩
  obtain ⟨h7, h8⟩ := Dk.past h2 h3 h6
  exact ⟨rfl, O', h5, h7, h8, h4.sync s⟩

/-- Picks that lay before the law, or have come since the disk stood. -/
theorem Dk.crash {w W0 W : World} {db : Nat} {D : DS} (h : Dk w db D W0) (hB : Below W0.heap.size W0 W) (hmade : D.made ≤ 4294967296) (pv : Value) (picks : List Int) (hp : Ints (fun b => b < W.heap.size ∧ (b < w.heap.size ∨ W0.heap.size ≤ b)) W pv picks) :
    Calls Try.prog 15 #[.pointer (some ⟨db, 0, none⟩), pv] W fun e W' => e = .returned (.tuple #[]) ∧ Dk w db (D.crash picks) W' := by
  obtain ⟨O, h1, h2, h3, h4⟩ := h
  have hB3 := h3.trans (hB.mono h3.size)
  have hp2 : Ints (fun b => b < W.heap.size ∧ O b = none) W pv picks := by
    obtain ⟨A, cap, h5, h6, h7⟩ := hp
    refine ⟨A, cap, h5, h6, fun hl => ?_⟩
    obtain ⟨b, off, h8, ⟨h9, h10⟩, h11⟩ := h7 hl
    refine ⟨b, off, h8, ⟨h9, ?_⟩, h11⟩
    rcases h10 with h10 | h10
    · exact h2 b h10
    · exact Classical.byContradiction fun e => by have := h1.lt b e; omega
  refine (crash_calls W O db D (h1.below hB) h4 hmade pv picks hp2).mono ?_
  rintro e W' ⟨rfl, O', h5, h6⟩
  obtain ⟨h7, h8⟩ := Dk.past h2 hB3 h6
  exact ⟨rfl, O', h5, h7, h8, h4.crash picks⟩

theorem Dk.read {w W : World} {db : Nat} {D : DS} (h : Dk w db D W) (s : ByteArray) (hs : Short s) :
    Calls Try.prog 14 #[.pointer (some ⟨db, 0, none⟩), .string s] W fun e W' => ReadD W (D.now s) e W' ∧ Dk w db D W' := by
  obtain ⟨O, h1, _, _, h4⟩ := id h
  refine (readD_calls W O db D h1 h4 s hs).mono ?_
  intro e W' hr
  obtain ⟨v, _, _, hB⟩ := id hr
  exact ⟨hr, h.below hB⟩
theorem Dk.durable {w W : World} {db : Nat} {D : DS} (h : Dk w db D W) (s : ByteArray) (hs : Short s) :
    Calls Try.prog 16 #[.pointer (some ⟨db, 0, none⟩), .string s] W fun e W' => ReadD W (D.safe s) e W' ∧ Dk w db D W' := by
  obtain ⟨O, h1, _, _, h4⟩ := id h
  refine (durableD_calls W O db D h1 h4 s hs).mono ?_
  intro e W' hr
  obtain ⟨v, _, _, hB⟩ := id hr
  exact ⟨hr, h.below hB⟩
theorem Dk.pending {w W : World} {db : Nat} {D : DS} (h : Dk w db D W) (hmade : D.made ≤ 4294967296) :
    Calls Try.prog 28 #[.pointer (some ⟨db, 0, none⟩)] W fun e W' => e = .returned (.int .i64 (D.chs.length : Nat)) ∧ Dk w db D W' := by
  obtain ⟨O, h1, _, _, h4⟩ := id h
  refine (pending_calls W O db D h1 h4 hmade).mono ?_
  rintro e W' ⟨rfl, hB⟩
  exact ⟨rfl, h.below hB⟩

end Go.Proofs.Ytlmohcmnoddncaa.Disk
