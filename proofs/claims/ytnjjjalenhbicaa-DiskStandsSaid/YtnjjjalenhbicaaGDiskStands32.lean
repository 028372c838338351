/-
  Put together out of texts of one chain: what they hold stands ahead of each.
-/
import Derived.Test.YtnjjjalenhbicaaGDiskStands30
import Derived.Test.YtnjjjalenhbicaaGDiskStands31
import Derived.Test.YtnjjjalenhbicaaGDiskStands20
import Derived.Test.YtnjjjalenhbicaaGDiskStands25
import Derived.Test.YtnjjjalenhbicaaGDiskStands23
/-
  The document's disk that nothing was done to: what each call answers, and that nothing but its own block has turned.
-/
namespace Go.Proofs.Ytnjjjalenhbicaa.Disk
open Go Go.RowKit Go.Sort Go.Lib Go.Proofs.Ytnjjjalenhbicaa.Law

/-- A new one of the document's disks. -/
def RefZ (W : World) (q : Nat) : Prop := RD W q 0 false (.slice none 0 0) (.slice none 0 0) (.slice none 0 0)
theorem RefZ.disk {W : World} {q : Nat} (h : RefZ W q) : RefD W q q 0 false [] [] [] := ⟨Nat.le_refl _, _, _, _, h, FilesAt.nil _ _, FilesAt.nil _ _, ChsAt.nil _ _⟩
theorem RefZ.nil {W : World} {q : Nat} (h : RefZ W q) : ∀ v, W.cell? ⟨q, 4, none⟩ = some v → ∀ k, v.ownBlock ≠ some k := fun v hv k e => by
  have := h.cells.1.2.2.2.2
  rw [this] at hv
  obtain rfl := Option.some.inj hv
  cases e
/-- Nothing but the block q has turned. -/
def Else (q : Nat) (w W : World) : Prop := Below q w W ∧ ∀ k, k < w.heap.size → k ≠ q → W.heap[k]? = w.heap[k]?
theorem RefZ.else {w W : World} {q : Nat} (h : RefZ w q) (hK : RefK q q w W) : Else q w W := ⟨hK.low, fun k hk hkq => hK.same k hk hkq fun v hv => h.nil v hv k⟩
def FreshO (n q : Nat) (w : World) (e : Ending) (W : World) : Prop := e = .returned (.int .i64 (n : Nat)) ∧ Else q w W
theorem RefZ.fresh {w : World} {q n : Nat} (h : RefZ w q) {room : Int} {fails : Bool} {now safe : List RF} {chs : List RC} {e : Ending} {W : World} (hO : RefO w q q n room fails now safe chs e W) : FreshO n q w e W := ⟨hO.1, h.else hO.2.2⟩

theorem freshWrite_calls (s : ByteArray) (hs63 : s.size ≤ 9223372036854775807) (k : Int) (bs : List Nat) (hbs : bs.length ≤ 140737488351232) : ∃ n : Nat, ∀ (w : World) (q : Nat) (dv : Value) (n₀ : Nat), RefZ w q → Bytes n₀ w dv bs →
    Calls Try.prog 30 #[.pointer (some ⟨q, 0, none⟩), .string s, .int .i64 k, dv] w (FreshO n q w) := by
  have hgl : (getB [] s).length = 0 := rfl
  have hul : usedF [] = 0 := rfl
  by_cases hn : refN false s k = 0
  · obtain ⟨_, _, hk0⟩ := refN_zero hn
    obtain ⟨k, rfl⟩ : ∃ n : Nat, k = (n : Int) := ⟨k.toNat, by omega⟩
    by_cases hk : k = 0
    · subst hk
      by_cases hl : bs.length = 0
      · have hb0 : bs = [] := List.length_eq_zero_iff.1 hl
        subst hb0
        refine ⟨0, fun w q dv n₀ hZ hD => ?_⟩
        obtain ⟨A, c, rfl⟩ := hD.form
        have hD2 : Bytes q w (.slice A 0 c) [] := by
          obtain ⟨A2, c2, h1, h2, h3, h4, h5⟩ := hD
          exact ⟨A2, c2, h1, h2, h3, h4, fun hp => absurd hp (by simp)⟩
        refine (refWrite_ok w q q (Nat.le_of_lt hZ.lt) 0 false [] [] (by simp) (by decide) [] (by simp) hZ.disk s hs63 0 hn (by simp) (by simp [hgl]) A 0 c [] rfl (by omega) hD2 (fun hp => by simp [hgl] at hp)).mono ?_
        rintro e W ⟨ov, xv, _, _, hO⟩
        exact hZ.fresh hO
      · refine ⟨6, fun w q dv n₀ hZ hD => ?_⟩
        obtain ⟨A, c, rfl⟩ := hD.form
        exact (refWrite_full w q q 0 (by omega) false [] [] (by simp) (by decide) [] hZ.disk s hs63 0 hn (by omega) (by simp [hgl]) A bs.length c (by omega) (by rw [hgl]; omega) (by rw [hgl, hul]; omega)).mono fun e W hO => hZ.fresh hO
    · exact ⟨8, fun w q dv n₀ hZ hD => (refWrite_range w q q 0 false [] [] (by simp) [] hZ.disk s hs63 (k : Nat) dv hn (by rw [hgl]; omega)).mono fun e W hO => hZ.fresh hO⟩
  · exact ⟨_, fun w q dv n₀ hZ hD => (refWrite_no _ hn w q q 0 false [] [] [] hZ.disk s hs63 k dv rfl).mono fun e W hO => hZ.fresh hO⟩

theorem freshCut_calls (s : ByteArray) (hs63 : s.size ≤ 9223372036854775807) (k : Int) : ∃ n : Nat, ∀ (w : World) (q : Nat), RefZ w q →
    Calls Try.prog 31 #[.pointer (some ⟨q, 0, none⟩), .string s, .int .i64 k] w (FreshO n q w) := by
  by_cases hn : refN false s k = 0
  · exact ⟨7, fun w q hZ => (refCut_none w q q 0 false [] [] (by simp) [] hZ.disk s hs63 k hn rfl).mono fun e W hO => hZ.fresh hO⟩
  · exact ⟨_, fun w q hZ => (refCut_no _ hn w q q 0 false [] [] [] hZ.disk s hs63 k rfl).mono fun e W hO => hZ.fresh hO⟩

theorem freshRemove_calls (s : ByteArray) (hs63 : s.size ≤ 9223372036854775807) : ∃ n : Nat, ∀ (w : World) (q : Nat), RefZ w q →
    Calls Try.prog 32 #[.pointer (some ⟨q, 0, none⟩), .string s] w (FreshO n q w) := by
  by_cases hn : refN false s 0 = 0
  · exact ⟨7, fun w q hZ => (refRemove_none w q q 0 false [] [] (by simp) [] hZ.disk s hs63 hn rfl).mono fun e W hO => hZ.fresh hO⟩
  · exact ⟨_, fun w q hZ => (refRemove_no _ hn w q q 0 false [] [] [] hZ.disk s hs63 rfl).mono fun e W hO => hZ.fresh hO⟩

theorem freshSync_calls (s : ByteArray) (hs63 : s.size ≤ 9223372036854775807) : ∃ n : Nat, ∀ (w : World) (q : Nat), RefZ w q →
    Calls Try.prog 33 #[.pointer (some ⟨q, 0, none⟩), .string s] w (FreshO n q w) := by
  by_cases hn : refN false s 0 = 0
  · exact ⟨_, fun w q hZ => (refSync_ok w q q (Nat.le_of_lt hZ.lt) 0 false [] [] (by simp) (by simp) [] (by simp) hZ.disk s hs63 hn (fun p hp => by cases hp)).mono fun e W hO => hZ.fresh hO⟩
  · exact ⟨_, fun w q hZ => (refSync_no _ hn w q q 0 false [] [] [] hZ.disk s hs63 rfl).mono fun e W hO => hZ.fresh hO⟩

set_option maxRecDepth 100000 in
set_option maxHeartbeats 2000000 in
theorem freshCrash_calls (w : World) (q : Nat) (h : RefZ w q) (pA : Option Addr) (pl pc : Nat) :
    Calls Try.prog 34 #[.pointer (some ⟨q, 0, none⟩), .slice pA pl pc] w fun e W => e = .returned (.tuple #[]) ∧ Else q w W := by
  obtain ⟨⟨_, c1, c2, c3, c4⟩, hz⟩ := RD.cells h
  have hz1 := hz 1
  have hz2 := hz 2
  have hz4 := hz 4
  have hlt := RD.lt h
  have k1 := rd_set2 h (.slice none 0 0)
  have k2 := rd_set4 k1 (.slice none 0 0)
  have l1 := (RefK.refl (Nat.le_refl q) (RD.lt h)).put h 2 (.slice none 0 0) (fun g hg => by cases hg)
  have l2 := l1.put k1 4 (.slice none 0 0) (fun g hg => by cases hg)
  have l3 := l2.put k2 1 (.bool false) (fun g hg => by cases hg)
  have HB := Lib.hid (h.else l3)
  clear hz k1 k2 l1 l2 l3 h
  go_enter Try.func34, Try.ntmps34
  go_wp2_with fail
  go_loopw [4] (fun i wr => i = .int .i64 0 ∧ wr = w) (fun i _ => 0)
  case atStart => exact ⟨rfl, rfl⟩
  case round =>
    obtain ⟨rfl, rfl⟩ := hrel
    go_wp2_with fail
    go_end0
    exact ⟨rfl, HB.out⟩

end Go.Proofs.Ytnjjjalenhbicaa.Disk

/-
  What a step makes of a disk as data; a file that was synced stands.
-/
namespace Go.Proofs.Ytnjjjalenhbicaa.Disk
open Go Go.RowKit Go.Lib Go.Proofs.Ytnjjjalenhbicaa.Law

/-- What a step makes of the disk. -/
def Step.on (s : Step) (D : DS) : DS :=
  if s.kind = 0 then D.write s.name s.at' (str s.data) else if s.kind = 1 then D.cut s.name s.at' else if s.kind = 2 then D.remove s.name else if s.kind = 3 then D.sync s.name
  else if s.kind = 4 then D.crash s.picks else if s.kind = 5 then D.fail (decide (s.at' ≠ 0)) else if s.kind = 6 then D.limit s.at' else D

theorem Step.made_le (s : Step) (D : DS) : (s.on D).made ≤ D.made + 1 := by
  unfold Step.on
  split
  · unfold DS.write; split
    · exact Nat.le_refl _
    · omega
  split
  · unfold DS.cut; split
    · exact Nat.le_refl _
    · omega
  split
  · unfold DS.remove; split
    · exact Nat.le_refl _
    · omega
  split
  · unfold DS.sync; split
    · exact Nat.le_succ _
    · omega
  split
  · exact Nat.le_succ _
  split
  · exact Nat.le_succ _
  split
  · unfold DS.limit; split
    · exact Nat.le_succ _
    · omega
  · omega

/-- The file x is v, now and durably, and nothing is on its way. -/
structure Stands (x : ByteArray) (v : Option (List Nat)) (D : DS) : Prop where
  now : D.now x = v
  safe : D.safe x = v
  chs : mine x D.chs = []

theorem Stands.start {D : DS} {x : ByteArray} (h : D.syncN x = 0) : Stands x (D.now x) (D.sync x) := by
  have e : D.sync x = D.syncD x := by unfold DS.sync; rw [if_pos h]
  rw [e]
  exact ⟨rfl, upd_same _ _ _, mine_others_same x D.chs⟩

theorem Stands.crash {D : DS} {x : ByteArray} {v : Option (List Nat)} (h : Stands x v D) (picks : List Int) : Stands x v (D.crash picks) := by
  have e : D.crashSafe picks x = v := by
    unfold DS.crashSafe
    rw [crashTo_out (s := x), h.safe]
    intro y hy e
    have : y.2 ∈ mine x D.chs := mem_mine.2 (by rw [← e]; exact hy)
    rw [h.chs] at this
    cases this
  exact ⟨e, e, rfl⟩

theorem Stands.step {D : DS} {x : ByteArray} {v : Option (List Nat)} (h : Stands x v D) (s : Step) (hs : s.name ≠ x ∨ 3 < s.kind) : Stands x v (s.on D) := by
  unfold Step.on
  split
  · rename_i hk
    have hn : s.name ≠ x := hs.resolve_right (by omega)
    unfold DS.write; split
    · exact ⟨(upd_other _ _ (Ne.symm hn)).trans h.now, h.safe, by show mine x (D.chs ++ [(s.name, _)]) = []; rw [mine_append, h.chs, mine_one_other _ hn]; rfl⟩
    · exact h
  split
  · rename_i _ hk
    have hn : s.name ≠ x := hs.resolve_right (by omega)
    unfold DS.cut; split
    · exact ⟨(upd_other _ _ (Ne.symm hn)).trans h.now, h.safe, by show mine x (D.chs ++ [(s.name, _)]) = []; rw [mine_append, h.chs, mine_one_other _ hn]; rfl⟩
    · exact h
  split
  · rename_i _ _ hk
    have hn : s.name ≠ x := hs.resolve_right (by omega)
    unfold DS.remove; split
    · exact ⟨(upd_other _ _ (Ne.symm hn)).trans h.now, h.safe, by show mine x (D.chs ++ [(s.name, _)]) = []; rw [mine_append, h.chs, mine_one_other _ hn]; rfl⟩
    · exact h
  split
  · rename_i _ _ _ hk
    have hn : s.name ≠ x := hs.resolve_right (by omega)
    unfold DS.sync; split
    · exact ⟨h.now, (upd_other _ _ (Ne.symm hn)).trans h.safe, (mine_others s.name x (Ne.symm hn) D.chs).trans h.chs⟩
    · exact h
  split
  · exact h.crash s.picks
  split
  · exact ⟨h.now, h.safe, h.chs⟩
  split
  · unfold DS.limit; split
    · exact ⟨h.now, h.safe, h.chs⟩
    · exact h
  · exact h

end Go.Proofs.Ytnjjjalenhbicaa.Disk

/-
  Contracts of the disk's calls on a nil disk.
-/
namespace Go.Proofs.Ytnjjjalenhbicaa.Disk
open Go Go.RowKit Go.Lib Go.Proofs.Ytnjjjalenhbicaa.Law

def NilErr (w : World) (e : Ending) (W : World) : Prop := e = .returned (.int .i64 9) ∧ Below w.heap.size w W

set_option maxRecDepth 100000 in
theorem write_nil (s : ByteArray) (k : Int) (A : Option Addr) (n c : Nat) (w : World) : Calls Try.prog 21 #[.pointer none, .string s, .int .i64 k, .slice A n c] w (NilErr w) := by
  have CR := Lib.hid (refusal_nil s k)
  go_enter Try.func21, Try.ntmps21
  go_wp2_with fail
  refine (CR.out _).mono ?_
  rintro e W ⟨rfl, hB⟩
  have HB := Lib.hid hB
  clear hB
  go_wp2_with fail
  go_ret
  exact ⟨rfl, HB.out⟩
set_option maxRecDepth 100000 in
theorem cut_nil (s : ByteArray) (k : Int) (w : World) : Calls Try.prog 24 #[.pointer none, .string s, .int .i64 k] w (NilErr w) := by
  have CR := Lib.hid (refusal_nil s k)
  go_enter Try.func24, Try.ntmps24
  go_wp2_with fail
  refine (CR.out _).mono ?_
  rintro e W ⟨rfl, hB⟩
  have HB := Lib.hid hB
  clear hB
  go_wp2_with fail
  go_ret
  exact ⟨rfl, HB.out⟩
set_option maxRecDepth 100000 in
theorem remove_nil (s : ByteArray) (w : World) : Calls Try.prog 25 #[.pointer none, .string s] w (NilErr w) := by
  have CR := Lib.hid (refusal_nil s 0)
  go_enter Try.func25, Try.ntmps25
  go_wp2_with fail
  refine (CR.out _).mono ?_
  rintro e W ⟨rfl, hB⟩
  have HB := Lib.hid hB
  clear hB
  go_wp2_with fail
  go_ret
  exact ⟨rfl, HB.out⟩
set_option maxRecDepth 100000 in
theorem sync_nil (s : ByteArray) (w : World) : Calls Try.prog 13 #[.pointer none, .string s] w (NilErr w) := by
  have CR := Lib.hid (refusal_nil s 0)
  go_enter Try.func13, Try.ntmps13
  go_wp2_with fail
  refine (CR.out _).mono ?_
  rintro e W ⟨rfl, hB⟩
  have HB := Lib.hid hB
  clear hB
  go_wp2_with fail
  go_ret
  exact ⟨rfl, HB.out⟩
set_option maxRecDepth 100000 in
theorem limit_nil (k : Int) (w : World) : Calls Try.prog 26 #[.pointer none, .int .i64 k] w (NilErr w) := by
  go_enter Try.func26, Try.ntmps26
  go_wp2_with fail
  go_ret
  exact ⟨rfl, Below.refl _ _⟩
set_option maxRecDepth 100000 in
theorem copy_nil (w : World) : Calls Try.prog 19 #[.pointer none] w fun e W => e = .returned (.pointer none) ∧ Below w.heap.size w W := by
  go_enter Try.func19, Try.ntmps19
  go_wp2_with fail
  go_ret
  exact ⟨rfl, Below.refl _ _⟩
set_option maxRecDepth 100000 in
theorem used_nil (w : World) : Calls Try.prog 27 #[.pointer none] w fun e W => e = .returned (.int .i64 0) ∧ Below w.heap.size w W := by
  go_enter Try.func27, Try.ntmps27
  go_wp2_with fail
  go_ret
  exact ⟨rfl, Below.refl _ _⟩
set_option maxRecDepth 100000 in
theorem fail_nil (b : Bool) (w : World) : Calls Try.prog 12 #[.pointer none, .bool b] w fun e W => e = .returned (.tuple #[]) ∧ Below w.heap.size w W := by
  go_enter Try.func12, Try.ntmps12
  go_wp2_with fail
  go_end0
  exact ⟨rfl, Below.refl _ _⟩
set_option maxRecDepth 100000 in
theorem crash_nil (A : Option Addr) (n c : Nat) (w : World) : Calls Try.prog 15 #[.pointer none, .slice A n c] w fun e W => e = .returned (.tuple #[]) ∧ Below w.heap.size w W := by
  go_enter Try.func15, Try.ntmps15
  go_wp2_with fail
  exact bodyPost_ret (results_none rfl _ _ _) rfl ⟨rfl, (Below.refl _ _).alloc (Nat.le_refl _) _⟩
set_option maxRecDepth 100000 in
set_option maxHeartbeats 2000000 in
theorem read_nil (s : ByteArray) (w : World) : Calls Try.prog 14 #[.pointer none, .string s] w (ReadD w none) := by
  have CK : Hid (Calls Try.prog 40 #[.pointer none, .string s] w (KnownOut w (.agg #[.bool false, .slice none 0 0, .bool false, .slice none 0 0, .bool false, .slice none 0 0]))) := Lib.hid (known_nil s w)
  have CR : Hid (∀ W, Below w.heap.size w W → Calls Try.prog 41 #[.agg #[.bool false, .slice none 0 0]] W fun e W2 => ∃ A n c, e = .returned (.tuple #[.slice A n c, .bool false]) ∧ Hid (ReadD w none e W2)) := Lib.hid fun W hB => by
    have e := read_calls false (.slice none 0 0) [] (by decide) W (Buf.bytes (Buf.nil W 0 5))
    refine e.mono ?_
    intro e W2 hr
    obtain ⟨v', rfl, hO, _⟩ := id hr
    obtain ⟨A, c, rfl⟩ := hO.bytes.form
    exact ⟨A, _, c, rfl, Lib.hid (readD_of hB hr)⟩
  have q0 := field_now false false false none none none 0 0 0 0 0 0
  go_enter Try.func14, Try.ntmps14
  go_wp2_with fail
  refine CK.out.mono ?_
  rintro e W ⟨rfl, hB⟩
  have cR := CR.out W hB
  have CRR := Lib.hid cR
  clear cR hB
  go_wp2_with fail
  refine CRR.out.mono ?_
  rintro e W2 ⟨A, n, c, rfl, HR⟩
  go_wp2_with fail
  go_ret2
  exact HR.out

end Go.Proofs.Ytnjjjalenhbicaa.Disk

/-
  A disk of a law's own beside blocks that are the law's own too: what each call makes of the disk, and that it leaves those blocks.
-/
namespace Go.Proofs.Ytnjjjalenhbicaa.Disk
open Go Go.RowKit Go.Lib Go.Proofs.Ytnjjjalenhbicaa.Law

/-- The disk D; the blocks of Fr are none of it. -/
def Dx (Fr : Nat → Prop) (w : World) (db : Nat) (D : DS) (W : World) : Prop :=
  ∃ O, DiskAt W O db D ∧ (∀ k, k < w.heap.size → O k = none) ∧ Below w.heap.size w W ∧ WF D ∧ ∀ k, Fr k → w.heap.size ≤ k ∧ k < W.heap.size ∧ O k = none

theorem Dx.of {w W : World} {db : Nat} {D : DS} (h : Dk w db D W) : Dx (fun _ => False) w db D W := by
  obtain ⟨O, h1, h2, h3, h4⟩ := h
  exact ⟨O, h1, h2, h3, h4, fun _ h => h.elim⟩
theorem Dx.low {Fr : Nat → Prop} {w W : World} {db : Nat} {D : DS} (h : Dx Fr w db D W) : Below w.heap.size w W := by obtain ⟨O, _, _, h3, _⟩ := h; exact h3
theorem Dx.below {Fr : Nat → Prop} {w W W' : World} {db : Nat} {D : DS} (h : Dx Fr w db D W) (hB : Below W.heap.size W W') : Dx Fr w db D W' := by
  obtain ⟨O, h1, h2, h3, h4, h5⟩ := h
  exact ⟨O, h1.below hB, h2, h3.trans (hB.mono h3.size), h4, fun k hk => ⟨(h5 k hk).1, Nat.lt_of_lt_of_le (h5 k hk).2.1 hB.size, (h5 k hk).2.2⟩⟩
/-- New blocks are none of the disk's. -/
theorem Dx.add {Fr : Nat → Prop} {w W W' : World} {db : Nat} {D : DS} (h : Dx Fr w db D W) (hB : Below W.heap.size W W') : Dx (fun k => Fr k ∨ (W.heap.size ≤ k ∧ k < W'.heap.size)) w db D W' := by
  obtain ⟨O, h1, h2, h3, h4, h5⟩ := h
  refine ⟨O, h1.below hB, h2, h3.trans (hB.mono h3.size), h4, fun k hk => ?_⟩
  rcases hk with hk | hk
  · exact ⟨(h5 k hk).1, Nat.lt_of_lt_of_le (h5 k hk).2.1 hB.size, (h5 k hk).2.2⟩
  · exact ⟨Nat.le_trans h3.size hk.1, hk.2, Classical.byContradiction fun e => by have := h1.lt k e; omega⟩
/-- Blocks that are none of the disk's turned. -/
theorem Dx.turn {Fr : Nat → Prop} {w W W' : World} {db : Nat} {D : DS} (h : Dx Fr w db D W) (hs : W.heap.size ≤ W'.heap.size) (hk : ∀ k, k < W.heap.size → ¬ Fr k → W'.heap[k]? = W.heap[k]?) (hos : W'.os = W.os) (htp : W'.tape = W.tape) (hout : W'.output = W.output) : Dx Fr w db D W' := by
  obtain ⟨O, h1, h2, h3, h4, h5⟩ := h
  refine ⟨O, h1.keep hs fun k hk' ho => hk k hk' fun hf => ho (h5 k hf).2.2, h2, ⟨hos.trans h3.os, htp.trans h3.tape, hout.trans h3.output, Nat.le_trans h3.size hs, fun k hk' => ?_⟩, h4, fun k hf => ⟨(h5 k hf).1, Nat.lt_of_lt_of_le (h5 k hf).2.1 hs, (h5 k hf).2.2⟩⟩
  rw [hk k (Nat.lt_of_lt_of_le hk' h3.size) fun hf => by have := (h5 k hf).1; omega]
  exact h3.block k hk'

/-- The blocks of Fr lie as they lay. -/
def SameOn (Fr : Nat → Prop) (W W' : World) : Prop := (∀ k, Fr k → W'.heap[k]? = W.heap[k]?) ∧ W.heap.size ≤ W'.heap.size
theorem Dx.past {Fr : Nat → Prop} {w W W' : World} {D : DS} {O O' : Owner} (h1 : ∀ k, k < w.heap.size → O k = none) (h2 : Below w.heap.size w W) (h3 : ∀ k, Fr k → w.heap.size ≤ k ∧ k < W.heap.size ∧ O k = none) (hp : Past W O W' O') {db : Nat} (hd : DiskAt W' O' db D) (hw : WF D) :
    Dx Fr w db D W' ∧ SameOn Fr W W' := by
  obtain ⟨h7, h8⟩ := Dk.past h1 h2 hp
  exact ⟨⟨O', hd, h7, h8, hw, fun k hk => ⟨(h3 k hk).1, Nat.lt_of_lt_of_le (h3 k hk).2.1 hp.size, hp.none k (h3 k hk).2.1 (h3 k hk).2.2⟩⟩, fun k hk => hp.same k (h3 k hk).2.1 (h3 k hk).2.2, hp.size⟩
theorem Dx.sameOn {Fr : Nat → Prop} {w W W' : World} {db : Nat} {D : DS} (h : Dx Fr w db D W) (hB : Below W.heap.size W W') : SameOn Fr W W' := by
  obtain ⟨O, _, _, _, _, h5⟩ := h
  exact ⟨fun k hk => hB.block k (h5 k hk).2.1, hB.size⟩

theorem Dx.write {Fr : Nat → Prop} {w W : World} {db : Nat} {D : DS} (h : Dx Fr w db D W) (hmade : D.made ≤ 4294967296) (s : ByteArray) (hs63 : s.size ≤ 9223372036854775807) (k : Int) (hk63 : k ≤ 9223372036854775807) (dv : Value) (bs : List Nat) (hdl : bs.length ≤ 140737488351232) (hI : Bytes W.heap.size W dv bs) :
    Calls Try.prog 21 #[.pointer (some ⟨db, 0, none⟩), .string s, .int .i64 k, dv] W fun e W' => e = .returned (.int .i64 (D.writeN s k bs.length : Nat)) ∧ Dx Fr w db (D.write s k (str bs)) W' ∧ SameOn Fr W W' := by
  obtain ⟨O, h1, h2, h3, h4, h5⟩ := h
  have hb := bytesS_str hI.lt
  refine (write_calls W O db D h1 h4 hmade s hs63 k hk63 dv (str bs) (by rw [str_size]; exact hdl) (by rw [hb]; exact hI)).mono ?_
  rintro e W' ⟨rfl, O', h6, h7⟩
  rw [str_size]
  exact ⟨rfl, Dx.past h2 h3 h5 h7 h6 (h4.write s k (str bs))⟩
theorem Dx.sync {Fr : Nat → Prop} {w W : World} {db : Nat} {D : DS} (h : Dx Fr w db D W) (s : ByteArray) (hs63 : s.size ≤ 9223372036854775807) :
    Calls Try.prog 13 #[.pointer (some ⟨db, 0, none⟩), .string s] W fun e W' => e = .returned (.int .i64 (D.syncN s : Nat)) ∧ Dx Fr w db (D.sync s) W' ∧ SameOn Fr W W' := by
  obtain ⟨O, h1, h2, h3, h4, h5⟩ := h
  refine (sync_calls W O db D h1 h4 s hs63).mono ?_
  rintro e W' ⟨rfl, O', h6, h7⟩
  exact ⟨rfl, Dx.past h2 h3 h5 h7 h6 (h4.sync s)⟩
theorem Dx.crash {Fr : Nat → Prop} {w W : World} {db : Nat} {D : DS} (h : Dx Fr w db D W) (hmade : D.made ≤ 4294967296) (pv : Value) (picks : List Int) (hp : Ints (fun b => Fr b) W pv picks) :
    Calls Try.prog 15 #[.pointer (some ⟨db, 0, none⟩), pv] W fun e W' => e = .returned (.tuple #[]) ∧ Dx Fr w db (D.crash picks) W' ∧ SameOn Fr W W' := by
  obtain ⟨O, h1, h2, h3, h4, h5⟩ := h
  have hp2 : Ints (fun b => b < W.heap.size ∧ O b = none) W pv picks := by
    obtain ⟨A, cap, h6, h7, h8⟩ := hp
    refine ⟨A, cap, h6, h7, fun hl => ?_⟩
    obtain ⟨b, off, h9, h10, h11⟩ := h8 hl
    exact ⟨b, off, h9, (h5 b h10).2, h11⟩
  refine (crash_calls W O db D h1 h4 hmade pv picks hp2).mono ?_
  rintro e W' ⟨rfl, O', h6, h7⟩
  exact ⟨rfl, Dx.past h2 h3 h5 h7 h6 (h4.crash picks)⟩
theorem Dx.read {Fr : Nat → Prop} {w W : World} {db : Nat} {D : DS} (h : Dx Fr w db D W) (s : ByteArray) (hs : Short s) :
    Calls Try.prog 14 #[.pointer (some ⟨db, 0, none⟩), .string s] W (ReadD W (D.now s)) := by
  obtain ⟨O, h1, _, _, h4, _⟩ := h
  exact readD_calls W O db D h1 h4 s hs
theorem Dx.durable {Fr : Nat → Prop} {w W : World} {db : Nat} {D : DS} (h : Dx Fr w db D W) (s : ByteArray) (hs : Short s) :
    Calls Try.prog 16 #[.pointer (some ⟨db, 0, none⟩), .string s] W (ReadD W (D.safe s)) := by
  obtain ⟨O, h1, _, _, h4, _⟩ := h
  exact durableD_calls W O db D h1 h4 s hs

end Go.Proofs.Ytnjjjalenhbicaa.Disk
