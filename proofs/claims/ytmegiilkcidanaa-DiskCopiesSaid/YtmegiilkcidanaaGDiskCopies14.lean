/-
  Put together out of texts of one chain: what they hold stands ahead of each.
-/
import Derived.Test.YtmegiilkcidanaaGDiskCopies22
import Derived.Test.YtmegiilkcidanaaGDiskCopies13
import Derived.Test.YtmegiilkcidanaaGDiskCopies11
import Derived.Test.YtmegiilkcidanaaGDiskCopies04
import Derived.Test.YtmegiilkcidanaaGDiskCopies12
import Derived.Deep.RegionHeld3
import Derived.Deep.RegionLaw
import Derived.Deep.RegionWith
/-
  The document's disk in memory as the data of a disk: what each call of it answers and leaves.
-/
namespace Go.Proofs.Ytmegiilkcidanaa.Disk
open Go Go.RowKit Go.Sort Go.Lib Go.Proofs.Ytmegiilkcidanaa.Law

/-- A value's row lies in these blocks. -/
def OwnIn (R : Nat → Prop) (v : Value) : Prop := ∀ g, v.ownBlock = some g → R g
theorem row_keep {W W' : World} {base size n : Nat} {e : TypeId} {v : Value} {xs : List Value} (h : W.ownsRow base e size v n xs) (hb : ∀ g, v.ownBlock = some g → W'.heap[g]? = W.heap[g]?) : W'.ownsRow base e size v n xs := by
  refine ⟨h.1, ?_⟩
  rcases h.2 with h0 | ⟨g, cap, cur, rfl, h1, h2, h3⟩
  · exact .inl h0
  · exact .inr ⟨g, cap, cur, rfl, h1, (hb g rfl).trans h2, h3⟩
theorem row_lt {W : World} {base size n : Nat} {e : TypeId} {v : Value} {xs : List Value} (h : W.ownsRow base e size v n xs) : ∀ g, v.ownBlock = some g → g < W.heap.size := fun g hg => by
  rcases h.2 with ⟨rfl, _⟩ | ⟨g', cap, cur, rfl, _, h2, _⟩
  · cases hg
  · simp only [Value.ownBlock, Option.some.injEq] at hg
    subst hg
    exact (Array.getElem?_eq_some_iff.1 h2).1
theorem FilesAt.keepR {W W' : World} {base : Nat} {v : Value} {ps : List RF} (h : FilesAt W base v ps) {R : Nat → Prop} (hR : ∀ k, R k → W'.heap[k]? = W.heap[k]?) (hv : OwnIn R v) (hp : ∀ p ∈ ps, OwnIn R p.2) : FilesAt W' base v ps :=
  ⟨row_keep h.1 fun g hg => hR g (hv g hg), fun p hpm => (h.2 p hpm).keep fun g hg => hR g (hp p hpm g hg)⟩
theorem ChsAt.keepR {W W' : World} {base : Nat} {v : Value} {ps : List RC} (h : ChsAt W base v ps) {R : Nat → Prop} (hR : ∀ k, R k → W'.heap[k]? = W.heap[k]?) (hv : OwnIn R v) (hp : ∀ p ∈ ps, OwnIn R p.2) : ChsAt W' base v ps :=
  ⟨row_keep h.1 fun g hg => hR g (hv g hg), fun p hpm => (h.2 p hpm).keep fun g hg => hR g (hp p hpm g hg)⟩

/-- The document's disk, all of it in the blocks R. -/
structure RefIn (R : Nat → Prop) (base q : Nat) (D : DS) (W : World) (nv sv cv : Value) (ns ss : List RF) (cs : List RC) : Prop where
  rel : Rel D ns ss cs
  le : base ≤ q
  rd : RD W q (D.room : Nat) D.fails nv sv cv
  now : FilesAt W base nv ns
  safe : FilesAt W base sv ss
  chs : ChsAt W base cv cs
  rq : R q
  rn : OwnIn R nv
  rs : OwnIn R sv
  rc : OwnIn R cv
  fn : ∀ p ∈ ns, OwnIn R p.2
  fs : ∀ p ∈ ss, OwnIn R p.2
  fc : ∀ p ∈ cs, OwnIn R p.2
  lt : ∀ k, R k → k < W.heap.size
def RefAt (R : Nat → Prop) (base q : Nat) (D : DS) (W : World) : Prop := ∃ nv sv cv now safe chs, RefIn R base q D W nv sv cv now safe chs

variable {R : Nat → Prop} {base q : Nat} {D : DS} {w W W' : World} {nv sv cv : Value} {now safe : List RF} {chs : List RC}

theorem RefIn.keep (h : RefIn R base q D W nv sv cv now safe chs) (hR : ∀ k, R k → W'.heap[k]? = W.heap[k]?) (hs : W.heap.size ≤ W'.heap.size) : RefIn R base q D W' nv sv cv now safe chs :=
  ⟨h.rel, h.le, (hR q h.rq).trans h.rd, h.now.keepR hR h.rn h.fn, h.safe.keepR hR h.rs h.fs, h.chs.keepR hR h.rc h.fc, h.rq, h.rn, h.rs, h.rc, h.fn, h.fs, h.fc, fun k hk => Nat.lt_of_lt_of_le (h.lt k hk) hs⟩
theorem RefAt.keep (h : RefAt R base q D W) (hR : ∀ k, R k → W'.heap[k]? = W.heap[k]?) (hs : W.heap.size ≤ W'.heap.size) : RefAt R base q D W' := by
  obtain ⟨nv, sv, cv, now, safe, chs, h⟩ := h
  exact ⟨nv, sv, cv, now, safe, chs, h.keep hR hs⟩
theorem RefAt.lt (h : RefAt R base q D W) : ∀ k, R k → k < W.heap.size := by
  obtain ⟨nv, sv, cv, now, safe, chs, h⟩ := h
  exact h.lt
theorem RefAt.below (h : RefAt R base q D W) (hB : Below W.heap.size W W') : RefAt R base q D W' := h.keep (fun k hk => hB.block k (h.lt k hk)) hB.size
theorem RefAt.more {R' : Nat → Prop} (h : RefAt R base q D W) (hr : ∀ k, R k → R' k) (hl : ∀ k, R' k → k < W.heap.size) : RefAt R' base q D W := by
  obtain ⟨nv, sv, cv, now, safe, chs, h⟩ := h
  exact ⟨nv, sv, cv, now, safe, chs, h.rel, h.le, h.rd, h.now, h.safe, h.chs, hr q h.rq, fun g hg => hr g (h.rn g hg), fun g hg => hr g (h.rs g hg), fun g hg => hr g (h.rc g hg), fun p hp g hg => hr g (h.fn p hp g hg), fun p hp g hg => hr g (h.fs p hp g hg), fun p hp g hg => hr g (h.fc p hp g hg), hl⟩
theorem RefIn.refD (h : RefIn R base q D W nv sv cv now safe chs) : RefD W base q (D.room : Nat) D.fails now safe chs := ⟨h.le, nv, sv, cv, h.rd, h.now, h.safe, h.chs⟩
theorem RefIn.base_le (h : RefIn R base q D W nv sv cv now safe chs) : base ≤ W.heap.size := Nat.le_trans h.le (Nat.le_of_lt h.rd.lt)

/-- Only the blocks of R have turned. -/
structure Only (R : Nat → Prop) (w W : World) : Prop where
  os : W.os = w.os
  tape : W.tape = w.tape
  output : W.output = w.output
  size : w.heap.size ≤ W.heap.size
  same : ∀ k, k < w.heap.size → ¬ R k → W.heap[k]? = w.heap[k]?
/-- These blocks and the new ones. -/
def More (R : Nat → Prop) (w W : World) : Nat → Prop := fun k => R k ∨ (w.heap.size ≤ k ∧ k < W.heap.size)

theorem RefIn.only (h : RefIn R base q D w nv sv cv now safe chs) (hK : RefK base q w W) : Only R w W :=
  ⟨hK.low.os, hK.low.tape, hK.low.output, hK.low.size, fun k hk hn => hK.same k hk (fun e => hn (e ▸ h.rq)) fun v hv hg => hn (by
    have := h.rd.cells.1.2.2.2.2
    rw [this] at hv
    obtain rfl := Option.some.inj hv
    exact h.rc k hg)⟩

/-- What lies behind a call of it. -/
theorem RefIn.after (h : RefIn R base q D w nv sv cv now safe chs) (hK : RefK base q w W) {D' : DS} {now' safe' : List RF} {chs' : List RC} (hD : RefD W base q (D'.room : Nat) D'.fails now' safe' chs') (hr : Rel D' now' safe' chs')
    (hn : ∀ p ∈ now', ∀ g, p.2.ownBlock = some g → R g ∨ w.heap.size ≤ g) (hs : ∀ p ∈ safe', ∀ g, p.2.ownBlock = some g → R g ∨ w.heap.size ≤ g) (hc : ∀ p ∈ chs', ∀ g, p.2.ownBlock = some g → R g ∨ w.heap.size ≤ g) : RefAt (More R w W) base q D' W := by
  obtain ⟨hb, nv', sv', cv', h1, h2, h3, h4⟩ := hD
  have hcell := h.rd.cells.1
  have hcell' := h1.cells.1
  have hold : ∀ i, 2 ≤ i → i ≤ 4 → ∀ v g, W.cell? ⟨q, i, none⟩ = some v → v.ownBlock = some g → R g ∨ w.heap.size ≤ g := fun i h5 h6 v g hv hg => by
    rcases hK.own i h5 h6 v g hv hg with ⟨j, v0, h7, h8, _, h9, h10⟩ | h7
    · left
      rcases (show j = 2 ∨ j = 3 ∨ j = 4 by omega) with rfl | rfl | rfl
      · rw [hcell.2.2.1] at h9; obtain rfl := Option.some.inj h9; exact h.rn g h10
      · rw [hcell.2.2.2.1] at h9; obtain rfl := Option.some.inj h9; exact h.rs g h10
      · rw [hcell.2.2.2.2] at h9; obtain rfl := Option.some.inj h9; exact h.rc g h10
    · exact .inr h7
  have hin : ∀ {g : Nat}, R g ∨ w.heap.size ≤ g → g < W.heap.size → More R w W g := fun h5 h6 => h5.elim .inl fun h7 => .inr ⟨h7, h6⟩
  refine ⟨nv', sv', cv', now', safe', chs', hr, hb, h1, h2, h3, h4, .inl h.rq, fun g hg => ?_, fun g hg => ?_, fun g hg => ?_, fun p hp g hg => ?_, fun p hp g hg => ?_, fun p hp g hg => ?_, fun k hk => ?_⟩
  · exact hin (hold 2 (by omega) (by omega) nv' g hcell'.2.2.1 hg) (row_lt h2.1 g hg)
  · exact hin (hold 3 (by omega) (by omega) sv' g hcell'.2.2.2.1 hg) (row_lt h3.1 g hg)
  · exact hin (hold 4 (by omega) (by omega) cv' g hcell'.2.2.2.2 hg) (row_lt h4.1 g hg)
  · exact hin (hn p hp g hg) ((h2.2 p hp).own g hg).2
  · exact hin (hs p hp g hg) ((h3.2 p hp).own g hg).2
  · exact hin (hc p hp g hg) ((h4.2 p hp).own g hg).2
  · rcases hk with hk | hk
    · exact Nat.lt_of_lt_of_le (h.lt k hk) hK.low.size
    · exact hk.2

/-- What a call of the document's disk answers and leaves. -/
def RefPost (R : Nat → Prop) (base q n : Nat) (D' : DS) (w : World) (e : Ending) (W : World) : Prop := e = .returned (.int .i64 (n : Nat)) ∧ RefAt (More R w W) base q D' W ∧ Only R w W

/-- A call that refuses. -/
theorem RefIn.no (h : RefIn R base q D w nv sv cv now safe chs) {n : Nat} {e : Ending} (hO : RefO w base q n (D.room : Nat) D.fails now safe chs e W) : RefPost R base q n D w e W :=
  ⟨hO.1, h.after hO.2.2 hO.2.1 h.rel (fun p hp g hg => .inl (h.fn p hp g hg)) (fun p hp g hg => .inl (h.fs p hp g hg)) (fun p hp g hg => .inl (h.fc p hp g hg)), h.only hO.2.2⟩

theorem RefAt.write (h : RefAt R base q D w) (hmade : D.made ≤ 100000) (s : ByteArray) (hs63 : s.size ≤ 9223372036854775807) (k : Int) (dv : Value) (ds : List Nat) (hdl : ds.length ≤ 140737488351232) (hD : Bytes base w dv ds) :
    Calls Try.prog 30 #[.pointer (some ⟨q, 0, none⟩), .string s, .int .i64 k, dv] w (RefPost R base q (D.writeN s k ds.length) (D.write s k (str ds)) w) := by
  obtain ⟨nv, sv, cv, now, safe, chs, h⟩ := h
  have hrel := h.rel
  have hnl := hrel.nowLen
  have hcl := hrel.chLen
  have hcm := hrel.wf.len
  have hul := hrel.wf.usedLe
  have hu := hrel.used
  have hroom := hrel.wf.room
  obtain ⟨hg1, hg2⟩ := hrel.get s
  have hsz := hrel.wf.nowLe s
  have hu60 : D.made * 1073741824 ≤ 100000 * 1073741824 := Nat.mul_le_mul_right _ hmade
  have hbase := h.base_le
  by_cases hn : refN D.fails s k = 0
  · obtain ⟨_, _, hk0⟩ := refN_zero hn
    obtain ⟨k, rfl⟩ : ∃ n : Nat, k = (n : Int) := ⟨k.toNat, by omega⟩
    by_cases h1 : (szO (D.now s) : Int) < (k : Int)
    · have e0 : D.writeN s k ds.length = 8 := by unfold DS.writeN; rw [if_neg (by simpa using hn), if_pos h1]
      have e1 : D.write s k (str ds) = D := by unfold DS.write; rw [str_size, if_neg (by rw [e0]; decide)]
      rw [e0, e1]
      exact (refWrite_range w base q _ _ now safe (by omega) chs h.refD s hs63 k dv hn (by rw [hg2]; exact h1)).mono fun e W hO => h.no hO
    · obtain ⟨A, c, rfl⟩ := hD.form
      by_cases h2 : szO (D.now s) < k + ds.length ∧ D.room + szO (D.now s) < D.used + (k + ds.length)
      · have e0 : D.writeN s k ds.length = 6 := by unfold DS.writeN; rw [if_neg (by simpa using hn), if_neg h1, if_pos (by simpa using h2)]
        have e1 : D.write s k (str ds) = D := by unfold DS.write; rw [str_size, if_neg (by rw [e0]; decide)]
        rw [e0, e1]
        exact (refWrite_full w base q _ ⟨by omega, by omega⟩ _ now safe (by omega) (by omega) chs h.refD s hs63 k hn (by omega) (by omega) A ds.length c (by omega) (by omega) (by rw [hu, hg2]; omega)).mono fun e W hO => h.no hO
      · have e0 : D.writeN s k ds.length = 0 := by unfold DS.writeN; rw [if_neg (by simpa using hn), if_neg h1, if_neg (by simpa using h2)]
        rw [e0]
        refine (refWrite_ok w base q hbase _ _ now safe (by omega) (by omega) chs (by omega) h.refD s hs63 k hn (by omega) (by omega) A ds.length c ds rfl (by omega) hD (fun hp => by rw [hu]; omega)).mono ?_
        rintro e W ⟨ov, xv, ho, hx, hO⟩
        have hr2 := hrel.wrote hD.lt e0 ov xv
        have e2 : (D.write s k (str ds)).room = D.room ∧ (D.write s k (str ds)).fails = D.fails := by unfold DS.write; split <;> exact ⟨rfl, rfl⟩
        refine ⟨hO.1, h.after hO.2.2 (by rw [e2.1, e2.2]; exact hO.2.1) hr2 (fun p hp g hg => ?_) (fun p hp g hg => .inl (h.fs p hp g hg)) (fun p hp g hg => ?_), h.only hO.2.2⟩
        · rcases withF_mem s _ now p hp with rfl | hp
          · exact .inr (ho g hg)
          · exact .inl (h.fn p hp g hg)
        · rcases List.mem_append.1 hp with hp | hp
          · exact .inl (h.fc p hp g hg)
          · simp only [List.mem_singleton] at hp
            subst hp
            exact .inr (hx g hg)
  · have e0 : D.writeN s k ds.length = refN D.fails s k := by unfold DS.writeN; rw [if_pos (by simpa using hn)]
    have e1 : D.write s k (str ds) = D := by unfold DS.write; rw [str_size, if_neg (by rw [e0]; exact hn)]
    rw [e0, e1]
    exact (refWrite_no _ hn w base q _ _ now safe chs h.refD s hs63 k dv rfl).mono fun e W hO => h.no hO

theorem RefAt.cut (h : RefAt R base q D w) (hmade : D.made ≤ 100000) (s : ByteArray) (hs63 : s.size ≤ 9223372036854775807) (k : Int) :
    Calls Try.prog 31 #[.pointer (some ⟨q, 0, none⟩), .string s, .int .i64 k] w (RefPost R base q (D.cutN s k) (D.cut s k) w) := by
  obtain ⟨nv, sv, cv, now, safe, chs, h⟩ := h
  have hrel := h.rel
  have hnl := hrel.nowLen
  have hcl := hrel.chLen
  have hcm := hrel.wf.len
  have hbase := h.base_le
  by_cases hn : refN D.fails s k = 0
  · obtain ⟨_, _, hk0⟩ := refN_zero hn
    obtain ⟨k, rfl⟩ : ∃ n : Nat, k = (n : Int) := ⟨k.toNat, by omega⟩
    cases hg : getF now s with
    | none =>
      have hd : D.now s = none := by rw [← hrel.now]; exact getF_datF.1 hg
      have e0 : D.cutN s k = 7 := by unfold DS.cutN; rw [if_neg (by simpa using hn), if_pos hd]
      have e1 : D.cut s k = D := by unfold DS.cut; rw [if_neg (by rw [e0]; decide)]
      rw [e0, e1]
      exact (refCut_none w base q _ _ now safe (by omega) chs h.refD s hs63 k hn hg).mono fun e W hO => h.no hO
    | some p =>
      obtain ⟨hm, hpn, hd⟩ := getF_some hg
      rw [hrel.now] at hd
      by_cases h1 : (szO (D.now s) : Int) < (k : Int)
      · have e0 : D.cutN s k = 8 := by unfold DS.cutN; rw [if_neg (by simpa using hn), if_neg (by rw [hd]; simp), if_pos h1]
        have e1 : D.cut s k = D := by unfold DS.cut; rw [if_neg (by rw [e0]; decide)]
        rw [e0, e1]
        exact (refCut_range w base q _ _ now safe (by omega) chs h.refD s hs63 k hn p hg hm (by rw [hd] at h1; simp only [szO] at h1; omega)).mono fun e W hO => h.no hO
      · have e0 : D.cutN s k = 0 := by unfold DS.cutN; rw [if_neg (by simpa using hn), if_neg (by rw [hd]; simp), if_neg h1]
        rw [e0]
        obtain ⟨pA, pc, hpv, _⟩ := (h.now.2 p hm).form
        refine (refCut_ok w base q hbase _ _ now safe (by omega) chs (by omega) h.refD s hs63 k hn p hg hm (by rw [hd] at h1; simp only [szO] at h1; omega) pA pc hpv).mono ?_
        intro e W hO
        have hr2 := hrel.cutD e0 hg (.slice pA k pc) (.slice none 0 0)
        have e2 : (D.cut s k).room = D.room ∧ (D.cut s k).fails = D.fails := by unfold DS.cut; split <;> exact ⟨rfl, rfl⟩
        refine ⟨hO.1, h.after hO.2.2 (by rw [e2.1, e2.2]; exact hO.2.1) hr2 (fun p' hp g hg' => ?_) (fun p hp g hg => .inl (h.fs p hp g hg)) (fun p hp g hg => ?_), h.only hO.2.2⟩
        · rcases withF_mem s _ now p' hp with rfl | hp
          · exact .inl (h.fn p hm g (by rw [hpv]; exact (own_any pA _ _ _ _).trans hg'))
          · exact .inl (h.fn p' hp g hg')
        · rcases List.mem_append.1 hp with hp | hp
          · exact .inl (h.fc p hp g hg)
          · simp only [List.mem_singleton] at hp
            subst hp
            cases hg
  · have e0 : D.cutN s k = refN D.fails s k := by unfold DS.cutN; rw [if_pos (by simpa using hn)]
    have e1 : D.cut s k = D := by unfold DS.cut; rw [if_neg (by rw [e0]; exact hn)]
    rw [e0, e1]
    exact (refCut_no _ hn w base q _ _ now safe chs h.refD s hs63 k rfl).mono fun e W hO => h.no hO

theorem RefAt.remove (h : RefAt R base q D w) (hmade : D.made ≤ 100000) (s : ByteArray) (hs63 : s.size ≤ 9223372036854775807) :
    Calls Try.prog 32 #[.pointer (some ⟨q, 0, none⟩), .string s] w (RefPost R base q (D.removeN s) (D.remove s) w) := by
  obtain ⟨nv, sv, cv, now, safe, chs, h⟩ := h
  have hrel := h.rel
  have hnl := hrel.nowLen
  have hcl := hrel.chLen
  have hcm := hrel.wf.len
  have hbase := h.base_le
  by_cases hn : refN D.fails s 0 = 0
  · cases hg : getF now s with
    | none =>
      have hd : D.now s = none := by rw [← hrel.now]; exact getF_datF.1 hg
      have e0 : D.removeN s = 7 := by unfold DS.removeN; rw [if_neg (by simpa using hn), if_pos hd]
      have e1 : D.remove s = D := by unfold DS.remove; rw [if_neg (by rw [e0]; decide)]
      rw [e0, e1]
      exact (refRemove_none w base q _ _ now safe (by omega) chs h.refD s hs63 hn hg).mono fun e W hO => h.no hO
    | some p =>
      obtain ⟨hm, hpn, hd⟩ := getF_some hg
      rw [hrel.now] at hd
      have e0 : D.removeN s = 0 := by unfold DS.removeN; rw [if_neg (by simpa using hn), if_neg (by rw [hd]; simp)]
      rw [e0]
      refine (refRemove_ok w base q hbase _ _ now safe (by omega) chs (by omega) h.refD s hs63 hn p hg hm).mono ?_
      intro e W hO
      have hr2 := hrel.removeD e0 (.slice none 0 0)
      have e2 : (D.remove s).room = D.room ∧ (D.remove s).fails = D.fails := by unfold DS.remove; split <;> exact ⟨rfl, rfl⟩
      refine ⟨hO.1, h.after hO.2.2 (by rw [e2.1, e2.2]; exact hO.2.1) hr2 (fun p' hp g hg' => .inl (h.fn p' (List.mem_filter.1 hp).1 g hg')) (fun p hp g hg => .inl (h.fs p hp g hg)) (fun p hp g hg => ?_), h.only hO.2.2⟩
      rcases List.mem_append.1 hp with hp | hp
      · exact .inl (h.fc p hp g hg)
      · simp only [List.mem_singleton] at hp
        subst hp
        cases hg
  · have e0 : D.removeN s = refN D.fails s 0 := by unfold DS.removeN; rw [if_pos (by simpa using hn)]
    have e1 : D.remove s = D := by unfold DS.remove; rw [if_neg (by rw [e0]; exact hn)]
    rw [e0, e1]
    exact (refRemove_no _ hn w base q _ _ now safe chs h.refD s hs63 rfl).mono fun e W hO => h.no hO

theorem RefAt.sync (h : RefAt R base q D w) (hmade : D.made ≤ 100000) (s : ByteArray) (hs63 : s.size ≤ 9223372036854775807) :
    Calls Try.prog 33 #[.pointer (some ⟨q, 0, none⟩), .string s] w (RefPost R base q (D.syncN s) (D.sync s) w) := by
  obtain ⟨nv, sv, cv, now, safe, chs, h⟩ := h
  have hrel := h.rel
  have hnl := hrel.nowLen
  have hsl := hrel.safeLen
  have hcl := hrel.chLen
  have hcm := hrel.wf.len
  have hbase := h.base_le
  by_cases hn : refN D.fails s 0 = 0
  · obtain ⟨hN, hr2⟩ := hrel.sync hn
    refine (refSync_ok w base q hbase _ _ now safe (by omega) (by omega) chs (by omega) h.refD s hs63 hn (fun p hp => ⟨(getF_some hp).1, (getF_some hp).2.1⟩)).mono ?_
    intro e W hO
    rw [hN] at hO
    have e2 : (D.sync s).room = D.room ∧ (D.sync s).fails = D.fails := by unfold DS.sync; split <;> exact ⟨rfl, rfl⟩
    refine ⟨hO.1, h.after hO.2.2 (by rw [e2.1, e2.2]; exact hO.2.1) hr2 (fun p' hp g hg' => .inl (h.fn p' hp g hg')) (fun p hp g hg => ?_) (fun p hp g hg => ?_), h.only hO.2.2⟩
    · unfold syncS at hp
      split at hp
      · exact .inl (h.fs p hp g hg)
      · unfold syncSafe at hp
        split at hp
        · rename_i p0 hp0
          rcases withF_mem s _ safe p hp with rfl | hp
          · exact .inl (h.fn p0 (getF_some hp0).1 g hg)
          · exact .inl (h.fs p hp g hg)
        · exact .inl (h.fs p (List.mem_filter.1 hp).1 g hg)
    · unfold syncC at hp
      split at hp
      · exact .inl (h.fc p hp g hg)
      · exact .inl (h.fc p (List.mem_filter.1 hp).1 g hg)
  · have e0 : D.syncN s = refN D.fails s 0 := by unfold DS.syncN; rw [if_pos (by simpa using hn)]
    have e1 : D.sync s = D := by unfold DS.sync; rw [if_neg (by rw [e0]; exact hn)]
    rw [e0, e1]
    exact (refSync_no _ hn w base q _ _ now safe chs h.refD s hs63 rfl).mono fun e W hO => h.no hO

/-- What Crash of it leaves. -/
def RefGone (R : Nat → Prop) (base q : Nat) (D' : DS) (w : World) (e : Ending) (W : World) : Prop := e = .returned (.tuple #[]) ∧ RefAt (More R w W) base q D' W ∧ Only R w W

theorem RefAt.crash (h : RefAt R base q D w) (hmade : D.made ≤ 100000) (pv : Value) (picks : List Int) (hp : Ints (fun b => b < base) w pv picks) :
    Calls Try.prog 34 #[.pointer (some ⟨q, 0, none⟩), pv] w (RefGone R base q (D.crash picks) w) := by
  obtain ⟨nv, sv, cv, now, safe, chs, h⟩ := h
  have hrel := h.rel
  have hsl := hrel.safeLen
  have hcl := hrel.chLen
  have hcm := hrel.wf.len
  have hcs : ∀ c ∈ chs, c.1.pos + c.1.data.length ≤ 1073741824 := fun c hc => by
    have h1 : plainR c ∈ D.chs.map plainD := by rw [← hrel.chs]; exact List.mem_map_of_mem hc
    obtain ⟨x, hx, hxc⟩ := List.mem_map.1 h1
    have := hrel.wf.chSz x hx
    simp only [plainR, plainD, Prod.mk.injEq] at hxc
    rw [← hxc.2.2.1, ← hxc.2.2.2, bytesS_length]
    exact this
  refine (refCrash_calls w base q h.base_le _ _ now safe (by omega) chs (by omega) h.refD hrel.safeS (fun s => by rw [hrel.safe]; exact hrel.wf.safeLe s) hcs pv picks hp).mono ?_
  rintro e W ⟨rfl, l, hD, hS, hd, _, hF, hK⟩
  have hfrom : ∀ p ∈ l, ∀ g, p.2.ownBlock = some g → R g ∨ w.heap.size ≤ g := fun p hp g hg => by
    rcases hF p hp g hg with ⟨p', hp', hg'⟩ | hg'
    · exact .inl (h.fs p' hp' g hg')
    · exact .inr hg'
  exact ⟨rfl, h.after hK hD (hrel.crash picks hS hd) hfrom hfrom (fun p hp => by cases hp), h.only hK⟩

/-- A field is set. -/
theorem RefAt.fail (h : RefAt R base q D W) (b : Bool) : RefAt R base q (D.fail b) (W.setCell ⟨q, 1, none⟩ (.bool b)) ∧ Only R W (W.setCell ⟨q, 1, none⟩ (.bool b)) := by
  obtain ⟨nv, sv, cv, now, safe, chs, h⟩ := h
  exact ⟨⟨nv, sv, cv, now, safe, chs, h.rel.fail b, h.le, rd_set1 h.rd b, files_set h.now h.rd 1, files_set h.safe h.rd 1, chs_set h.chs h.rd 1, h.rq, h.rn, h.rs, h.rc, h.fn, h.fs, h.fc, fun k hk => by simpa [World.setCell] using h.lt k hk⟩,
    rfl, rfl, rfl, by simp [World.setCell], fun k _ hn => Below.heap_setCell _ _ _ _ (fun e => hn (e ▸ h.rq))⟩
theorem RefAt.limit (h : RefAt R base q D W) {r : Int} (hr : 0 ≤ r ∧ r ≤ 1073741824) : RefAt R base q (D.limit r) (W.setCell ⟨q, 0, none⟩ (.int .i64 r)) ∧ Only R W (W.setCell ⟨q, 0, none⟩ (.int .i64 r)) := by
  obtain ⟨nv, sv, cv, now, safe, chs, h⟩ := h
  have e : D.limit r = { D with room := r.toNat } := by unfold DS.limit; rw [if_pos hr]
  have hl := h.rel.limit r
  rw [e] at hl ⊢
  have e2 : ((r.toNat : Nat) : Int) = r := by omega
  exact ⟨⟨nv, sv, cv, now, safe, chs, hl, h.le, by show RD _ q ((r.toNat : Nat) : Int) _ _ _ _; rw [e2]; exact rd_set0 h.rd r, files_set h.now h.rd 0, files_set h.safe h.rd 0, chs_set h.chs h.rd 0, h.rq, h.rn, h.rs, h.rc, h.fn, h.fs, h.fc, fun k hk => by simpa [World.setCell] using h.lt k hk⟩,
    rfl, rfl, rfl, by simp [World.setCell], fun k _ hn => Below.heap_setCell _ _ _ _ (fun e => hn (e ▸ h.rq))⟩
theorem RefAt.rd (h : RefAt R base q D W) : ∃ room fails nv sv cv, RD W q room fails nv sv cv := by
  obtain ⟨nv, sv, cv, now, safe, chs, h⟩ := h
  exact ⟨_, _, _, _, _, h.rd⟩

end Go.Proofs.Ytmegiilkcidanaa.Disk

/-
  A step that is done to both disks: what it leaves, out of what either call leaves.
-/
namespace Go.Proofs.Ytmegiilkcidanaa.Disk
open Go Go.RowKit Go.Lib Go.Proofs.Ytmegiilkcidanaa.Law

/-- A step's box. -/
def boxS (W : World) (s : Step) (dv pv : Value) : World := W.alloc (.cells #[.int .i64 s.kind, .string s.name, .int .i64 s.at', dv, pv] 37)
def stepV (s : Step) (dv pv : Value) : Value := .agg #[.int .i64 s.kind, .string s.name, .int .i64 s.at', dv, pv]
/-- The box's cells, as far as a call wants them. -/
def Boxed (W : World) (b : Nat) (s : Step) (dv pv : Value) : Prop :=
  W.cell? ⟨b, 1, none⟩ = some (.string s.name) ∧ W.cell? ⟨b, 2, none⟩ = some (.int .i64 s.at') ∧ W.cell? ⟨b, 3, none⟩ = some dv ∧ W.cell? ⟨b, 4, none⟩ = some pv ∧ b < W.heap.size
theorem boxS_new (W : World) (s : Step) (dv pv : Value) : (boxS W s dv pv).heap[W.heap.size]? = some (.cells #[.int .i64 s.kind, .string s.name, .int .i64 s.at', dv, pv] 37 (0, 0)) := by
  unfold boxS; simp only [World.alloc, Array.getElem?_push_size]
theorem Boxed.of {W : World} {b : Nat} {s : Step} {dv pv : Value} (h : W.heap[b]? = some (.cells #[.int .i64 s.kind, .string s.name, .int .i64 s.at', dv, pv] 37 (0, 0))) : Boxed W b s dv pv := by
  refine ⟨?_, ?_, ?_, ?_, (Array.getElem?_eq_some_iff.1 h).1⟩ <;> simp [World.cell?, h]

/-- Two calls, one behind the other, in either order. -/
def Turn (b : Nat) (s : Step) (dv pv : Value) (r1 r2 : Int) (f g : FuncId) (av bv : Array Value) (J : World → Prop) (W : World) : Prop :=
  Calls Try.prog f av W fun e W1 => e = .returned (.int .i64 r1) ∧ Boxed W1 b s dv pv ∧ Hid (Calls Try.prog g bv W1 fun e W2 => e = .returned (.int .i64 r2) ∧ Boxed W2 b s dv pv ∧ Hid (J W2))
def Duo (b : Nat) (s : Step) (dv pv : Value) (r1 r2 : Int) (f g : FuncId) (av bv : Array Value) (J : World → Prop) (W : World) : Prop :=
  Turn b s dv pv r1 r2 f g av bv J W.drew ∧ Turn b s dv pv r2 r1 g f bv av J W.drew
/-- What a step answers. -/
def StepO (r1 r2 : Int) (J : World → Prop) (e : Ending) (W : World) : Prop := ∃ t : Bool, e = .returned (.bool t) ∧ (r1 = r2 → t = true) ∧ J W

set_option maxRecDepth 100000 in
set_option maxHeartbeats 2000000 in
theorem step_write (db q : Nat) (s : Step) (h0 : s.kind = 0) (dA pA : Option Addr) (dl dc pl pc : Nat) (W : World) (r1 r2 : Int) (J : World → Prop)
    (h : Duo W.heap.size s (.slice dA dl dc) (.slice pA pl pc) r1 r2 21 30 #[.pointer (some ⟨db, 0, none⟩), .string s.name, .int .i64 s.at', .slice dA dl dc] #[.pointer (some ⟨q, 0, none⟩), .string s.name, .int .i64 s.at', .slice dA dl dc] J (boxS W s (.slice dA dl dc) (.slice pA pl pc))) :
    Calls Try.prog 10 #[.pointer (some ⟨db, 0, none⟩), .pointer (some ⟨q, 0, none⟩), stepV s (.slice dA dl dc) (.slice pA pl pc)] W (StepO r1 r2 J) := by
  obtain ⟨hA, hB⟩ := h
  unfold Turn at hA hB
  have hbx := boxS_new W s (.slice dA dl dc) (.slice pA pl pc)
  obtain ⟨w1, hw1⟩ : ∃ w1, boxS W s (.slice dA dl dc) (.slice pA pl pc) = w1 := ⟨_, rfl⟩
  have hw1' : W.alloc (.cells #[.int .i64 s.kind, .string s.name, .int .i64 s.at', .slice dA dl dc, .slice pA pl pc] 37) = w1 := hw1
  rw [hw1] at hA hB hbx
  obtain ⟨b, hb⟩ : ∃ b, W.heap.size = b := ⟨_, rfl⟩
  rw [hb] at hA hB hbx
  have hc0 : w1.cell? ⟨b, 0, none⟩ = some (.int .i64 0) := by simp [World.cell?, hbx, h0]
  obtain ⟨c1, c2, c3, c4, cb⟩ := Boxed.of hbx
  have HW1 := Lib.hid hw1'
  have CA := Lib.hid hA
  have CB := Lib.hid hB
  clear hA hB hbx hw1 hw1' h0
  unfold stepV
  go_enter Try.func10, Try.ntmps10
  go_upto_region 1 with fail
  rw [HW1.out]
  go_wp2_with fail
  go_region_held3 (fun w' => w'.cell? ⟨b, 1, none⟩ = some (.string s.name) ∧ w'.cell? ⟨b, 2, none⟩ = some (.int .i64 s.at') ∧ w'.cell? ⟨b, 3, none⟩ = some (.slice dA dl dc)) (go_keep) (first
    | (go_at_call 21; ((with_reducible refine CA.out.mono ?_)); rintro e W2 ⟨rfl, ⟨m1, m2, m3, m4, mb⟩, HC2⟩)
    | (go_at_call 30; ((with_reducible refine CB.out.mono ?_)); rintro e W2 ⟨rfl, ⟨m1, m2, m3, m4, mb⟩, HC2⟩)
    | (go_at_call 21; ((with_reducible refine HC2.out.mono ?_)); rintro e W3 ⟨rfl, ⟨n1, n2, n3, n4, nb⟩, HJ⟩)
    | (go_at_call 30; ((with_reducible refine HC2.out.mono ?_)); rintro e W3 ⟨rfl, ⟨n1, n2, n3, n4, nb⟩, HJ⟩))
  all_goals
    go_wp2_with fail
    go_ret
    exact ⟨_, rfl, fun h => by first | (subst h; simp) | simp [h], HJ.out⟩

set_option maxRecDepth 100000 in
set_option maxHeartbeats 2000000 in
theorem step_cut (db q : Nat) (s : Step) (h0 : s.kind = 1) (dA pA : Option Addr) (dl dc pl pc : Nat) (W : World) (r1 r2 : Int) (J : World → Prop)
    (h : Duo W.heap.size s (.slice dA dl dc) (.slice pA pl pc) r1 r2 24 31 #[.pointer (some ⟨db, 0, none⟩), .string s.name, .int .i64 s.at'] #[.pointer (some ⟨q, 0, none⟩), .string s.name, .int .i64 s.at'] J (boxS W s (.slice dA dl dc) (.slice pA pl pc))) :
    Calls Try.prog 10 #[.pointer (some ⟨db, 0, none⟩), .pointer (some ⟨q, 0, none⟩), stepV s (.slice dA dl dc) (.slice pA pl pc)] W (StepO r1 r2 J) := by
  obtain ⟨hA, hB⟩ := h
  unfold Turn at hA hB
  have hbx := boxS_new W s (.slice dA dl dc) (.slice pA pl pc)
  obtain ⟨w1, hw1⟩ : ∃ w1, boxS W s (.slice dA dl dc) (.slice pA pl pc) = w1 := ⟨_, rfl⟩
  have hw1' : W.alloc (.cells #[.int .i64 s.kind, .string s.name, .int .i64 s.at', .slice dA dl dc, .slice pA pl pc] 37) = w1 := hw1
  rw [hw1] at hA hB hbx
  obtain ⟨b, hb⟩ : ∃ b, W.heap.size = b := ⟨_, rfl⟩
  rw [hb] at hA hB hbx
  have hc0 : w1.cell? ⟨b, 0, none⟩ = some (.int .i64 1) := by simp [World.cell?, hbx, h0]
  obtain ⟨c1, c2, c3, c4, cb⟩ := Boxed.of hbx
  have HW1 := Lib.hid hw1'
  have CA := Lib.hid hA
  have CB := Lib.hid hB
  clear hA hB hbx hw1 hw1' h0
  unfold stepV
  go_enter Try.func10, Try.ntmps10
  go_upto_region 1 with fail
  rw [HW1.out]
  go_wp2_with fail
  go_region_held3 (fun w' => w'.cell? ⟨b, 1, none⟩ = some (.string s.name) ∧ w'.cell? ⟨b, 2, none⟩ = some (.int .i64 s.at')) (go_keep) (first
    | (go_at_call 24; ((with_reducible refine CA.out.mono ?_)); rintro e W2 ⟨rfl, ⟨m1, m2, m3, m4, mb⟩, HC2⟩)
    | (go_at_call 31; ((with_reducible refine CB.out.mono ?_)); rintro e W2 ⟨rfl, ⟨m1, m2, m3, m4, mb⟩, HC2⟩)
    | (go_at_call 24; ((with_reducible refine HC2.out.mono ?_)); rintro e W3 ⟨rfl, ⟨n1, n2, n3, n4, nb⟩, HJ⟩)
    | (go_at_call 31; ((with_reducible refine HC2.out.mono ?_)); rintro e W3 ⟨rfl, ⟨n1, n2, n3, n4, nb⟩, HJ⟩))
  all_goals
    go_wp2_with fail
    go_ret
    exact ⟨_, rfl, fun h => by first | (subst h; simp) | simp [h], HJ.out⟩

set_option maxRecDepth 100000 in
set_option maxHeartbeats 2000000 in
theorem step_remove (db q : Nat) (s : Step) (h0 : s.kind = 2) (dA pA : Option Addr) (dl dc pl pc : Nat) (W : World) (r1 r2 : Int) (J : World → Prop)
    (h : Duo W.heap.size s (.slice dA dl dc) (.slice pA pl pc) r1 r2 25 32 #[.pointer (some ⟨db, 0, none⟩), .string s.name] #[.pointer (some ⟨q, 0, none⟩), .string s.name] J (boxS W s (.slice dA dl dc) (.slice pA pl pc))) :
    Calls Try.prog 10 #[.pointer (some ⟨db, 0, none⟩), .pointer (some ⟨q, 0, none⟩), stepV s (.slice dA dl dc) (.slice pA pl pc)] W (StepO r1 r2 J) := by
  obtain ⟨hA, hB⟩ := h
  unfold Turn at hA hB
  have hbx := boxS_new W s (.slice dA dl dc) (.slice pA pl pc)
  obtain ⟨w1, hw1⟩ : ∃ w1, boxS W s (.slice dA dl dc) (.slice pA pl pc) = w1 := ⟨_, rfl⟩
  have hw1' : W.alloc (.cells #[.int .i64 s.kind, .string s.name, .int .i64 s.at', .slice dA dl dc, .slice pA pl pc] 37) = w1 := hw1
  rw [hw1] at hA hB hbx
  obtain ⟨b, hb⟩ : ∃ b, W.heap.size = b := ⟨_, rfl⟩
  rw [hb] at hA hB hbx
  have hc0 : w1.cell? ⟨b, 0, none⟩ = some (.int .i64 2) := by simp [World.cell?, hbx, h0]
  obtain ⟨c1, c2, c3, c4, cb⟩ := Boxed.of hbx
  have HW1 := Lib.hid hw1'
  have CA := Lib.hid hA
  have CB := Lib.hid hB
  clear hA hB hbx hw1 hw1' h0
  unfold stepV
  go_enter Try.func10, Try.ntmps10
  go_upto_region 1 with fail
  rw [HW1.out]
  go_wp2_with fail
  go_region_held3 (fun w' => w'.cell? ⟨b, 1, none⟩ = some (.string s.name)) (go_keep) (first
    | (go_at_call 25; ((with_reducible refine CA.out.mono ?_)); rintro e W2 ⟨rfl, ⟨m1, m2, m3, m4, mb⟩, HC2⟩)
    | (go_at_call 32; ((with_reducible refine CB.out.mono ?_)); rintro e W2 ⟨rfl, ⟨m1, m2, m3, m4, mb⟩, HC2⟩)
    | (go_at_call 25; ((with_reducible refine HC2.out.mono ?_)); rintro e W3 ⟨rfl, ⟨n1, n2, n3, n4, nb⟩, HJ⟩)
    | (go_at_call 32; ((with_reducible refine HC2.out.mono ?_)); rintro e W3 ⟨rfl, ⟨n1, n2, n3, n4, nb⟩, HJ⟩))
  all_goals
    go_wp2_with fail
    go_ret
    exact ⟨_, rfl, fun h => by first | (subst h; simp) | simp [h], HJ.out⟩

set_option maxRecDepth 100000 in
set_option maxHeartbeats 2000000 in
theorem step_sync (db q : Nat) (s : Step) (h0 : s.kind = 3) (dA pA : Option Addr) (dl dc pl pc : Nat) (W : World) (r1 r2 : Int) (J : World → Prop)
    (h : Duo W.heap.size s (.slice dA dl dc) (.slice pA pl pc) r1 r2 13 33 #[.pointer (some ⟨db, 0, none⟩), .string s.name] #[.pointer (some ⟨q, 0, none⟩), .string s.name] J (boxS W s (.slice dA dl dc) (.slice pA pl pc))) :
    Calls Try.prog 10 #[.pointer (some ⟨db, 0, none⟩), .pointer (some ⟨q, 0, none⟩), stepV s (.slice dA dl dc) (.slice pA pl pc)] W (StepO r1 r2 J) := by
  obtain ⟨hA, hB⟩ := h
  unfold Turn at hA hB
  have hbx := boxS_new W s (.slice dA dl dc) (.slice pA pl pc)
  obtain ⟨w1, hw1⟩ : ∃ w1, boxS W s (.slice dA dl dc) (.slice pA pl pc) = w1 := ⟨_, rfl⟩
  have hw1' : W.alloc (.cells #[.int .i64 s.kind, .string s.name, .int .i64 s.at', .slice dA dl dc, .slice pA pl pc] 37) = w1 := hw1
  rw [hw1] at hA hB hbx
  obtain ⟨b, hb⟩ : ∃ b, W.heap.size = b := ⟨_, rfl⟩
  rw [hb] at hA hB hbx
  have hc0 : w1.cell? ⟨b, 0, none⟩ = some (.int .i64 3) := by simp [World.cell?, hbx, h0]
  obtain ⟨c1, c2, c3, c4, cb⟩ := Boxed.of hbx
  have HW1 := Lib.hid hw1'
  have CA := Lib.hid hA
  have CB := Lib.hid hB
  clear hA hB hbx hw1 hw1' h0
  unfold stepV
  go_enter Try.func10, Try.ntmps10
  go_upto_region 1 with fail
  rw [HW1.out]
  go_wp2_with fail
  go_region_held3 (fun w' => w'.cell? ⟨b, 1, none⟩ = some (.string s.name)) (go_keep) (first
    | (go_at_call 13; ((with_reducible refine CA.out.mono ?_)); rintro e W2 ⟨rfl, ⟨m1, m2, m3, m4, mb⟩, HC2⟩)
    | (go_at_call 33; ((with_reducible refine CB.out.mono ?_)); rintro e W2 ⟨rfl, ⟨m1, m2, m3, m4, mb⟩, HC2⟩)
    | (go_at_call 13; ((with_reducible refine HC2.out.mono ?_)); rintro e W3 ⟨rfl, ⟨n1, n2, n3, n4, nb⟩, HJ⟩)
    | (go_at_call 33; ((with_reducible refine HC2.out.mono ?_)); rintro e W3 ⟨rfl, ⟨n1, n2, n3, n4, nb⟩, HJ⟩))
  all_goals
    go_wp2_with fail
    go_ret
    exact ⟨_, rfl, fun h => by first | (subst h; simp) | simp [h], HJ.out⟩

set_option maxRecDepth 100000 in
set_option maxHeartbeats 2000000 in
theorem step_crash (db q : Nat) (s : Step) (h0 : s.kind = 4) (dA pA : Option Addr) (dl dc pl pc : Nat) (W : World) (J : World → Prop)
    (h : Calls Try.prog 15 #[.pointer (some ⟨db, 0, none⟩), .slice pA pl pc] (boxS W s (.slice dA dl dc) (.slice pA pl pc)) fun e W1 => e = .returned (.tuple #[]) ∧ Boxed W1 W.heap.size s (.slice dA dl dc) (.slice pA pl pc) ∧
      Hid (Calls Try.prog 34 #[.pointer (some ⟨q, 0, none⟩), .slice pA pl pc] W1 fun e W2 => e = .returned (.tuple #[]) ∧ J W2)) :
    Calls Try.prog 10 #[.pointer (some ⟨db, 0, none⟩), .pointer (some ⟨q, 0, none⟩), stepV s (.slice dA dl dc) (.slice pA pl pc)] W (StepO 0 0 J) := by
  have hbx := boxS_new W s (.slice dA dl dc) (.slice pA pl pc)
  obtain ⟨w1, hw1⟩ : ∃ w1, boxS W s (.slice dA dl dc) (.slice pA pl pc) = w1 := ⟨_, rfl⟩
  have hw1' : W.alloc (.cells #[.int .i64 s.kind, .string s.name, .int .i64 s.at', .slice dA dl dc, .slice pA pl pc] 37) = w1 := hw1
  rw [hw1] at h hbx
  obtain ⟨b, hb⟩ : ∃ b, W.heap.size = b := ⟨_, rfl⟩
  rw [hb] at h hbx
  have hc0 : w1.cell? ⟨b, 0, none⟩ = some (.int .i64 4) := by simp [World.cell?, hbx, h0]
  obtain ⟨c1, c2, c3, c4, cb⟩ := Boxed.of hbx
  have HW1 := Lib.hid hw1'
  have CA := Lib.hid h
  clear h hbx hw1 hw1' h0
  unfold stepV
  go_enter Try.func10, Try.ntmps10
  go_upto_region 1 with fail
  rw [HW1.out]
  go_wp2_with fail
  refine CA.out.mono ?_
  clear CA
  rintro e W2 ⟨rfl, ⟨m1, m2, m3, m4, mb⟩, HC2⟩
  go_wp2_with fail
  refine HC2.out.mono ?_
  rintro e W3 ⟨rfl, hJ⟩
  have HJ := Lib.hid hJ
  clear hJ HC2
  go_wp2_with fail
  go_ret
  exact ⟨_, rfl, fun _ => rfl, HJ.out⟩

set_option maxRecDepth 100000 in
set_option maxHeartbeats 2000000 in
theorem step_fail (db q : Nat) (s : Step) (h0 : s.kind = 5) (dA pA : Option Addr) (dl dc pl pc : Nat) (W : World) (J : World → Prop)
    (h : Calls Try.prog 12 #[.pointer (some ⟨db, 0, none⟩), .bool (decide (s.at' ≠ 0))] (boxS W s (.slice dA dl dc) (.slice pA pl pc)) fun e W1 => e = .returned (.tuple #[]) ∧ Boxed W1 W.heap.size s (.slice dA dl dc) (.slice pA pl pc) ∧
      (∃ room fails nv sv cv, RD W1 q room fails nv sv cv) ∧ Hid (J (W1.setCell ⟨q, 1, none⟩ (.bool (decide (s.at' ≠ 0)))))) :
    Calls Try.prog 10 #[.pointer (some ⟨db, 0, none⟩), .pointer (some ⟨q, 0, none⟩), stepV s (.slice dA dl dc) (.slice pA pl pc)] W (StepO 0 0 J) := by
  have hbx := boxS_new W s (.slice dA dl dc) (.slice pA pl pc)
  obtain ⟨w1, hw1⟩ : ∃ w1, boxS W s (.slice dA dl dc) (.slice pA pl pc) = w1 := ⟨_, rfl⟩
  have hw1' : W.alloc (.cells #[.int .i64 s.kind, .string s.name, .int .i64 s.at', .slice dA dl dc, .slice pA pl pc] 37) = w1 := hw1
  rw [hw1] at h hbx
  obtain ⟨b, hb⟩ : ∃ b, W.heap.size = b := ⟨_, rfl⟩
  rw [hb] at h hbx
  have hc0 : w1.cell? ⟨b, 0, none⟩ = some (.int .i64 5) := by simp [World.cell?, hbx, h0]
  obtain ⟨c1, c2, c3, c4, cb⟩ := Boxed.of hbx
  have HW1 := Lib.hid hw1'
  by_cases hz : s.at' = 0
  · have hd : decide (s.at' ≠ 0) = false := by simp [hz]
    rw [hd] at h
    rw [hz] at c2
    have HZ := Lib.hid hz
    have CA := Lib.hid h
    clear h hbx hw1 hw1' h0 hd hz
    unfold stepV
    go_enter Try.func10, Try.ntmps10
    go_upto_region 1 with fail
    rw [HW1.out]
    go_wp2_with fail
    refine CA.out.mono ?_
    clear CA
    rintro e W2 ⟨rfl, ⟨m1, m2, m3, m4, mb⟩, ⟨room, fails, nv, sv, cv, hRD⟩, HJ⟩
    rw [HZ.out] at m2
    obtain ⟨⟨_, r1, _⟩, rf⟩ := hRD.cells
    have rf1 := rf 1
    clear hRD rf
    go_wp2_with fail
    go_ret
    exact ⟨_, rfl, fun _ => rfl, HJ.out⟩
  · have hd : decide (s.at' ≠ 0) = true := by simp [hz]
    rw [hd] at h
    have hne : (s.at' != 0) = true := by simp [hz]
    have CA := Lib.hid h
    clear h hbx hw1 hw1' h0 hd hz
    unfold stepV
    go_enter Try.func10, Try.ntmps10
    go_upto_region 1 with fail
    rw [HW1.out]
    go_wp2_with fail
    refine CA.out.mono ?_
    clear CA
    rintro e W2 ⟨rfl, ⟨m1, m2, m3, m4, mb⟩, ⟨room, fails, nv, sv, cv, hRD⟩, HJ⟩
    obtain ⟨⟨_, r1, _⟩, rf⟩ := hRD.cells
    have rf1 := rf 1
    clear hRD rf
    go_wp2_with fail
    go_ret
    exact ⟨_, rfl, fun _ => rfl, HJ.out⟩

set_option maxRecDepth 100000 in
set_option maxHeartbeats 2000000 in
theorem step_limit (db q : Nat) (s : Step) (h0 : s.kind = 6) (dA pA : Option Addr) (dl dc pl pc : Nat) (W : World) (J : World → Prop) (hr : 0 ≤ s.at' ∧ s.at' ≤ 1073741824)
    (h : Calls Try.prog 26 #[.pointer (some ⟨db, 0, none⟩), .int .i64 s.at'] (boxS W s (.slice dA dl dc) (.slice pA pl pc)) fun e W1 => e = .returned (.int .i64 0) ∧ Boxed W1 W.heap.size s (.slice dA dl dc) (.slice pA pl pc) ∧
      (∃ room fails nv sv cv, RD W1 q room fails nv sv cv) ∧ Hid (J (W1.setCell ⟨q, 0, none⟩ (.int .i64 s.at')))) :
    Calls Try.prog 10 #[.pointer (some ⟨db, 0, none⟩), .pointer (some ⟨q, 0, none⟩), stepV s (.slice dA dl dc) (.slice pA pl pc)] W (StepO 0 0 J) := by
  have hbx := boxS_new W s (.slice dA dl dc) (.slice pA pl pc)
  obtain ⟨w1, hw1⟩ : ∃ w1, boxS W s (.slice dA dl dc) (.slice pA pl pc) = w1 := ⟨_, rfl⟩
  have hw1' : W.alloc (.cells #[.int .i64 s.kind, .string s.name, .int .i64 s.at', .slice dA dl dc, .slice pA pl pc] 37) = w1 := hw1
  rw [hw1] at h hbx
  obtain ⟨b, hb⟩ : ∃ b, W.heap.size = b := ⟨_, rfl⟩
  rw [hb] at h hbx
  have hc0 : w1.cell? ⟨b, 0, none⟩ = some (.int .i64 6) := by simp [World.cell?, hbx, h0]
  obtain ⟨c1, c2, c3, c4, cb⟩ := Boxed.of hbx
  have HW1 := Lib.hid hw1'
  obtain ⟨hr1, hr2⟩ := hr
  have CA := Lib.hid h
  clear h hbx hw1 hw1' h0
  unfold stepV
  go_enter Try.func10, Try.ntmps10
  go_upto_region 1 with fail
  rw [HW1.out]
  go_wp2_with fail
  refine CA.out.mono ?_
  clear CA
  rintro e W2 ⟨rfl, ⟨m1, m2, m3, m4, mb⟩, ⟨room, fails, nv, sv, cv, hRD⟩, HJ⟩
  obtain ⟨⟨r0, _⟩, rf⟩ := hRD.cells
  have rf0 := rf 0
  clear hRD rf
  go_wp2_with fail
  go_ret
  exact ⟨_, rfl, fun _ => rfl, HJ.out⟩

set_option maxRecDepth 100000 in
set_option maxHeartbeats 2000000 in
theorem step_limit_no (db q : Nat) (s : Step) (h0 : s.kind = 6) (dA pA : Option Addr) (dl dc pl pc : Nat) (W : World) (J : World → Prop) (hr : ¬ (0 ≤ s.at' ∧ s.at' ≤ 1073741824))
    (h : Calls Try.prog 26 #[.pointer (some ⟨db, 0, none⟩), .int .i64 s.at'] (boxS W s (.slice dA dl dc) (.slice pA pl pc)) fun e W1 => e = .returned (.int .i64 1) ∧ Boxed W1 W.heap.size s (.slice dA dl dc) (.slice pA pl pc) ∧
      Hid (J W1)) :
    Calls Try.prog 10 #[.pointer (some ⟨db, 0, none⟩), .pointer (some ⟨q, 0, none⟩), stepV s (.slice dA dl dc) (.slice pA pl pc)] W (StepO 0 0 J) := by
  have hbx := boxS_new W s (.slice dA dl dc) (.slice pA pl pc)
  obtain ⟨w1, hw1⟩ : ∃ w1, boxS W s (.slice dA dl dc) (.slice pA pl pc) = w1 := ⟨_, rfl⟩
  have hw1' : W.alloc (.cells #[.int .i64 s.kind, .string s.name, .int .i64 s.at', .slice dA dl dc, .slice pA pl pc] 37) = w1 := hw1
  rw [hw1] at h hbx
  obtain ⟨b, hb⟩ : ∃ b, W.heap.size = b := ⟨_, rfl⟩
  rw [hb] at h hbx
  have hc0 : w1.cell? ⟨b, 0, none⟩ = some (.int .i64 6) := by simp [World.cell?, hbx, h0]
  obtain ⟨c1, c2, c3, c4, cb⟩ := Boxed.of hbx
  have HW1 := Lib.hid hw1'
  have CA := Lib.hid h
  rcases (show s.at' < 0 ∨ (0 ≤ s.at' ∧ 1073741824 < s.at') by omega) with hr1 | ⟨hr1, hr2⟩
  all_goals
    clear h hbx hw1 hw1' h0 hr
    unfold stepV
    go_enter Try.func10, Try.ntmps10
    go_upto_region 1 with fail
    rw [HW1.out]
    go_wp2_with fail
    refine CA.out.mono ?_
    clear CA
    rintro e W2 ⟨rfl, ⟨m1, m2, m3, m4, mb⟩, HJ⟩
    go_wp2_with fail
    go_ret
    exact ⟨_, rfl, fun _ => rfl, HJ.out⟩

set_option maxRecDepth 100000 in
set_option maxHeartbeats 2000000 in
theorem step_other (db q : Nat) (s : Step) (h0 : s.kind < 0 ∨ 6 < s.kind) (dA pA : Option Addr) (dl dc pl pc : Nat) (W : World) (J : World → Prop) (h : J (boxS W s (.slice dA dl dc) (.slice pA pl pc))) :
    Calls Try.prog 10 #[.pointer (some ⟨db, 0, none⟩), .pointer (some ⟨q, 0, none⟩), stepV s (.slice dA dl dc) (.slice pA pl pc)] W (StepO 0 0 J) := by
  have hbx := boxS_new W s (.slice dA dl dc) (.slice pA pl pc)
  obtain ⟨w1, hw1⟩ : ∃ w1, boxS W s (.slice dA dl dc) (.slice pA pl pc) = w1 := ⟨_, rfl⟩
  have hw1' : W.alloc (.cells #[.int .i64 s.kind, .string s.name, .int .i64 s.at', .slice dA dl dc, .slice pA pl pc] 37) = w1 := hw1
  rw [hw1] at h hbx
  obtain ⟨b, hb⟩ : ∃ b, W.heap.size = b := ⟨_, rfl⟩
  rw [hb] at hbx
  have hc0 : w1.cell? ⟨b, 0, none⟩ = some (.int .i64 s.kind) := by simp [World.cell?, hbx]
  obtain ⟨c1, c2, c3, c4, cb⟩ := Boxed.of hbx
  have HW1 := Lib.hid hw1'
  have HJ := Lib.hid h
  have e0 : (s.kind == 0) = false := by rw [beq_eq_false_iff_ne]; omega
  have e1 : (s.kind == 1) = false := by rw [beq_eq_false_iff_ne]; omega
  have e2 : (s.kind == 2) = false := by rw [beq_eq_false_iff_ne]; omega
  have e3 : (s.kind == 3) = false := by rw [beq_eq_false_iff_ne]; omega
  have e4 : (s.kind == 4) = false := by rw [beq_eq_false_iff_ne]; omega
  have e5 : (s.kind == 5) = false := by rw [beq_eq_false_iff_ne]; omega
  have e6 : (s.kind == 6) = false := by rw [beq_eq_false_iff_ne]; omega
  clear h hbx hw1 hw1' h0
  unfold stepV
  go_enter Try.func10, Try.ntmps10
  go_upto_region 1 with fail
  rw [HW1.out]
  go_wp2_with fail
  go_ret
  exact ⟨_, rfl, fun _ => rfl, HJ.out⟩

end Go.Proofs.Ytmegiilkcidanaa.Disk
