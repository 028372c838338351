/-
  Put together out of texts of one chain: what they hold stands ahead of each.
-/
import Derived.Test.YtdikmlnpclklnaaDoorGSlotNames07
/-
  A disk of a law's own beside blocks that are the law's own too: what each call makes of the disk, and that it leaves those blocks.
-/
namespace Go.Proofs.YtdikmlnpclklnaaDoor.Disk
open Go Go.RowKit Go.Lib Go.Proofs.YtdikmlnpclklnaaDoor.Law

/-- The disk D; the blocks of Fr are none of it. -/
def Dx (Fr : Nat → Prop) (w : World) (db : Nat) (D : DS) (W : World) : Prop :=
  ∃ O, DiskAt W O db D ∧ (∀ k, k < w.heap.size → O k = none) ∧ Below w.heap.size w W ∧ WF D ∧ ∀ k, Fr k → w.heap.size ≤ k ∧ k < W.heap.size ∧ O k = none

theorem Dx.of {w W : World} {db : Nat} {D : DS} (h : Dk w db D W) : Dx (fun _ => False) w db D W := by
  obtain ⟨O, h1, h2, h3, h4⟩ := h
  exact ⟨O, h1, h2, h3, h4, fun _ h => h.elim⟩
theorem Dx.low {Fr : Nat → Prop} {w W : World} {db : Nat} {D : DS} (h : Dx Fr w db D W) : Below w.heap.size w W := by obtain ⟨O, _, _, h3, _⟩ := h; exact h3
theorem Dx.below {Fr : Nat → Prop} {w W W' : World} {db : Nat} {D : DS} (h : Dx Fr w db D W) (hB : Below W.heap.size W W') : Dx Fr w db D W' := by
  obtain ⟨O, h1, h2, h3, h4, h5⟩ := h
  exact ⟨O, h1.below hB, h2, h3.trans (hB.mono h3.size), h4, fun k hk => ⟨(h5 k hk).1, Nat.lt_of_lt_of_le (h5 k hk).2.1 hB.size, (h5 k hk).2.2⟩⟩
/-- New blocks are none of the disk's. -/
theorem Dx.add {Fr : Nat → Prop} {w W W' : World} {db : Nat} {D : DS} (h : Dx Fr w db D W) (hB : Below W.heap.size W W') : Dx (fun k => Fr k ∨ (W.heap.size ≤ k ∧ k < W'.heap.size)) w db D W' := by
  obtain ⟨O, h1, h2, h3, h4, h5⟩ := h
  refine ⟨O, h1.below hB, h2, h3.trans (hB.mono h3.size), h4, fun k hk => ?_⟩
  rcases hk with hk | hk
  · exact ⟨(h5 k hk).1, Nat.lt_of_lt_of_le (h5 k hk).2.1 hB.size, (h5 k hk).2.2⟩
  · exact ⟨Nat.le_trans h3.size hk.1, hk.2, Classical.byContradiction fun e => by have := h1.lt k e; omega⟩
/-- Blocks that are none of the disk's turned. -/
theorem Dx.turn {Fr : Nat → Prop} {w W W' : World} {db : Nat} {D : DS} (h : Dx Fr w db D W) (hs : W.heap.size ≤ W'.heap.size) (hk : ∀ k, k < W.heap.size → ¬ Fr k → W'.heap[k]? = W.heap[k]?) (hos : W'.os = W.os) (htp : W'.tape = W.tape) (hout : W'.output = W.output) : Dx Fr w db D W' := by
  obtain ⟨O, h1, h2, h3, h4, h5⟩ := h
  refine ⟨O, h1.keep hs fun k hk' ho => hk k hk' fun hf => ho (h5 k hf).2.2, h2, ⟨hos.trans h3.os, htp.trans h3.tape, hout.trans h3.output, Nat.le_trans h3.size hs, fun k hk' => ?_⟩, h4, fun k hf => ⟨(h5 k hf).1, Nat.lt_of_lt_of_le (h5 k hf).2.1 hs, (h5 k hf).2.2⟩⟩
  rw [hk k (Nat.lt_of_lt_of_le hk' h3.size) fun hf => by have := (h5 k hf).1; omega]
  exact h3.block k hk'

/-- The blocks of Fr lie as they lay. -/
def SameOn (Fr : Nat → Prop) (W W' : World) : Prop := (∀ k, Fr k → W'.heap[k]? = W.heap[k]?) ∧ W.heap.size ≤ W'.heap.size
theorem Dx.past {Fr : Nat → Prop} {w W W' : World} {D : DS} {O O' : Owner} (h1 : ∀ k, k < w.heap.size → O k = none) (h2 : Below w.heap.size w W) (h3 : ∀ k, Fr k → w.heap.size ≤ k ∧ k < W.heap.size ∧ O k = none) (hp : Past W O W' O') {db : Nat} (hd : DiskAt W' O' db D) (hw : WF D) :
    Dx Fr w db D W' ∧ SameOn Fr W W' := by
  obtain ⟨h7, h8⟩ := Dk.past h1 h2 hp
  exact ⟨⟨O', hd, h7, h8, hw, fun k hk => ⟨(h3 k hk).1, Nat.lt_of_lt_of_le (h3 k hk).2.1 hp.size, hp.none k (h3 k hk).2.1 (h3 k hk).2.2⟩⟩, fun k hk => hp.same k (h3 k hk).2.1 (h3 k hk).2.2, hp.size⟩
theorem Dx.sameOn {Fr : Nat → Prop} {w W W' : World} {db : Nat} {D : DS} (h : Dx Fr w db D W) (hB : Below W.heap.size W W') : SameOn Fr W W' := by
  obtain ⟨O, _, _, _, _, h5⟩ := h
  exact ⟨fun k hk => hB.block k (h5 k hk).2.1, hB.size⟩

theorem Dx.write {Fr : Nat → Prop} {w W : World} {db : Nat} {D : DS} (h : Dx Fr w db D W) (hmade : D.made ≤ 4294967296) (s : ByteArray) (hs63 : s.size ≤ 9223372036854775807) (k : Int) (hk63 : k ≤ 9223372036854775807) (dv : Value) (bs : List Nat) (hdl : bs.length ≤ 140737488351232) (hI : Bytes W.heap.size W dv bs) :
    Calls Tryd.prog 32 #[.pointer (some ⟨db, 0, none⟩), .string s, .int .i64 k, dv] W fun e W' => e = .returned (.int .i64 (D.writeN s k bs.length : Nat)) ∧ Dx Fr w db (D.write s k (str bs)) W' ∧ SameOn Fr W W' := by
  obtain ⟨O, h1, h2, h3, h4, h5⟩ := h
  have hb := bytesS_str hI.lt
  refine (write_calls W O db D h1 h4 hmade s hs63 k hk63 dv (str bs) (by rw [str_size]; exact hdl) (by rw [hb]; exact hI)).mono ?_
  rintro e W' ⟨rfl, O', h6, h7⟩
  rw [str_size]
  exact ⟨rfl, Dx.past h2 h3 h5 h7 h6 (h4.write s k (str bs))⟩
theorem Dx.sync {Fr : Nat → Prop} {w W : World} {db : Nat} {D : DS} (h : Dx Fr w db D W) (s : ByteArray) (hs63 : s.size ≤ 9223372036854775807) :
    Calls Tryd.prog 33 #[.pointer (some ⟨db, 0, none⟩), .string s] W fun e W' => e = .returned (.int .i64 (D.syncN s : Nat)) ∧ Dx Fr w db (D.sync s) W' ∧ SameOn Fr W W' := by
  obtain ⟨O, h1, h2, h3, h4, h5⟩ := h
  refine (sync_calls W O db D h1 h4 s hs63).mono ?_
  rintro e W' ⟨rfl, O', h6, h7⟩
  exact ⟨rfl, Dx.past h2 h3 h5 h7 h6 (h4.sync s)⟩
theorem Dx.crash {Fr : Nat → Prop} {w W : World} {db : Nat} {D : DS} (h : Dx Fr w db D W) (hmade : D.made ≤ 4294967296) (pv : Value) (picks : List Int) (hp : Ints (fun b => Fr b) W pv picks) :
    Calls Tryd.prog 10 #[.pointer (some ⟨db, 0, none⟩), pv] W fun e W' => e = .returned (.tuple #[]) ∧ Dx Fr w db (D.crash picks) W' ∧ SameOn Fr W W' := by
  obtain ⟨O, h1, h2, h3, h4, h5⟩ := h
  have hp2 : Ints (fun b => b < W.heap.size ∧ O b = none) W pv picks := by
    obtain ⟨A, cap, h6, h7, h8⟩ := hp
    refine ⟨A, cap, h6, h7, fun hl => ?_⟩
    obtain ⟨b, off, h9, h10, h11⟩ := h8 hl
    exact ⟨b, off, h9, (h5 b h10).2, h11⟩
  refine (crash_calls W O db D h1 h4 hmade pv picks hp2).mono ?_
  rintro e W' ⟨rfl, O', h6, h7⟩
  exact ⟨rfl, Dx.past h2 h3 h5 h7 h6 (h4.crash picks)⟩
theorem Dx.read {Fr : Nat → Prop} {w W : World} {db : Nat} {D : DS} (h : Dx Fr w db D W) (s : ByteArray) (hs : Short s) :
    Calls Tryd.prog 47 #[.pointer (some ⟨db, 0, none⟩), .string s] W (ReadD W (D.now s)) := by
  obtain ⟨O, h1, _, _, h4, _⟩ := h
  exact readD_calls W O db D h1 h4 s hs
theorem Dx.durable {Fr : Nat → Prop} {w W : World} {db : Nat} {D : DS} (h : Dx Fr w db D W) (s : ByteArray) (hs : Short s) :
    Calls Tryd.prog 11 #[.pointer (some ⟨db, 0, none⟩), .string s] W (ReadD W (D.safe s)) := by
  obtain ⟨O, h1, _, _, h4, _⟩ := h
  exact durableD_calls W O db D h1 h4 s hs

end Go.Proofs.YtdikmlnpclklnaaDoor.Disk
