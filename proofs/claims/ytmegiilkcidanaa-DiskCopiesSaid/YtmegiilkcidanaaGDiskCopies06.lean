/-
  Put together out of texts of one chain: what they hold stands ahead of each.
-/
import Derived.Test.YtmegiilkcidanaaGDiskCopies05
import Derived.Deep.QuietTactic
import Derived.BigQuiet
import Derived.Deep.RegionLaw
import Derived.Deep.RegionWith
/-
  Contracts of the document's disk's Remove.
-/
namespace Go.Proofs.Ytmegiilkcidanaa.Disk
open Go Go.RowKit Go.Sort Go.Lib Go.Proofs.Ytmegiilkcidanaa.Law

theorem RefD.lt {W : World} {base q : Nat} {room : Int} {fails : Bool} {now safe : List RF} {chs : List RC} (h : RefD W base q room fails now safe chs) : q < W.heap.size := by
  obtain ⟨_, _, _, _, h1, _⟩ := h
  exact h1.lt
theorem RefD.keep {W : World} {base q : Nat} {room : Int} {fails : Bool} {now safe : List RF} {chs : List RC} (h : RefD W base q room fails now safe chs) : RefK base q W W := RefK.refl h.1 h.lt
/-- What a call of the document's disk leaves. -/
def RefO (w : World) (base q : Nat) (n : Nat) (room : Int) (fails : Bool) (now safe : List RF) (chs : List RC) (e : Ending) (W : World) : Prop :=
  e = .returned (.int .i64 (n : Nat)) ∧ RefD W base q room fails now safe chs ∧ RefK base q w W

set_option maxRecDepth 100000 in
set_option maxHeartbeats 2000000 in
theorem refRemove_no (n : Nat) (hn0 : n ≠ 0) (w : World) (base q : Nat) (room : Int) (fails : Bool) (now safe : List RF) (chs : List RC) (h : RefD w base q room fails now safe chs) (s : ByteArray) (hs63 : s.size ≤ 9223372036854775807) (hn : refN fails s 0 = n) :
    Calls Try.prog 32 #[.pointer (some ⟨q, 0, none⟩), .string s] w (RefO w base q n room fails now safe chs) := by
  have HF : Hid (RefO w base q n room fails now safe chs (.returned (.int .i64 (n : Nat))) w) := Lib.hid ⟨rfl, h, h.keep⟩
  obtain ⟨hb, nv, sv, cv, h1, h2, h3, h4⟩ := h
  have CR := Lib.hid (refReady_calls q room fails nv sv cv s hs63 0 w h1)
  rw [hn] at CR
  have hnI : ((n : Int) == 0) = false := by rw [beq_eq_false_iff_ne]; omega
  clear hn h1 h2 h3 h4
  go_enter Try.func32, Try.ntmps32
  go_wp2_with fail
  refine CR.out.mono ?_
  clear CR
  rintro e W ⟨rfl, rfl⟩
  go_wp2_with fail
  go_ret
  exact HF.out

set_option maxRecDepth 100000 in
set_option maxHeartbeats 2000000 in
theorem refRemove_none (w : World) (base q : Nat) (room : Int) (fails : Bool) (now safe : List RF) (hnow : now.length ≤ 1000000) (chs : List RC) (h : RefD w base q room fails now safe chs) (s : ByteArray) (hs63 : s.size ≤ 9223372036854775807) (hn : refN fails s 0 = 0) (hg : getF now s = none) :
    Calls Try.prog 32 #[.pointer (some ⟨q, 0, none⟩), .string s] w (RefO w base q 7 room fails now safe chs) := by
  have HF : Hid (RefO w base q 7 room fails now safe chs (.returned (.int .i64 7)) w) := Lib.hid ⟨rfl, h, h.keep⟩
  obtain ⟨hb, nv, sv, cv, h1, h2, h3, h4⟩ := h
  have CR := Lib.hid (refReady_calls q room fails nv sv cv s hs63 0 w h1)
  rw [hn] at CR
  have CG := refGet_calls nv now (by omega) s base w h2
  have e0 : ∀ e W, GetR w now s e W → e = .returned (.tuple #[.slice none 0 0, .bool false]) ∧ W = w := fun e W hr => by
    obtain ⟨rfl, rfl⟩ := hr
    exact ⟨by rw [getV, hg]; rfl, rfl⟩
  have CG := Lib.hid (CG.mono e0)
  obtain ⟨nA, nc, rfl⟩ := h2.form
  obtain ⟨N, hN⟩ : ∃ N, now.length = N := ⟨_, rfl⟩
  obtain ⟨⟨_, _, c2, _⟩, _⟩ := h1.cells
  rw [hN] at c2 CG
  clear hn h1 h2 h3 h4 e0 hN hg
  go_enter Try.func32, Try.ntmps32
  go_wp2_with fail
  refine CR.out.mono ?_
  clear CR
  rintro e W ⟨rfl, rfl⟩
  go_wp2_with fail
  refine CG.out.mono ?_
  clear CG
  rintro e W ⟨rfl, rfl⟩
  go_wp2_with fail
  go_ret
  exact HF.out

set_option maxRecDepth 100000 in
set_option maxHeartbeats 2000000 in
theorem refRemove_ok (w : World) (base q : Nat) (hbase : base ≤ w.heap.size) (room : Int) (fails : Bool) (now safe : List RF) (hnow : now.length ≤ 1000000) (chs : List RC) (hchs : chs.length ≤ 1000000) (h : RefD w base q room fails now safe chs) (s : ByteArray) (hs63 : s.size ≤ 9223372036854775807) (hn : refN fails s 0 = 0) (p : RF) (hg : getF now s = some p) (hp : p ∈ now) :
    Calls Try.prog 32 #[.pointer (some ⟨q, 0, none⟩), .string s] w (RefO w base q 0 room fails (now.filter (neN s)) safe (chs ++ [(⟨2, s, 0, []⟩, .slice none 0 0)])) := by
  obtain ⟨hb, nv, sv, cv, h1, h2, h3, h4⟩ := h
  have CR := Lib.hid (refReady_calls q room fails nv sv cv s hs63 0 w h1)
  rw [hn] at CR
  have CG := refGet_calls nv now (by omega) s base w h2
  obtain ⟨pA, pc, hpv, _⟩ := (h2.2 p hp).form
  have e0 : ∀ e W, GetR w now s e W → e = .returned (.tuple #[.slice pA p.1.2.length pc, .bool true]) ∧ W = w := fun e W hr => by
    obtain ⟨rfl, rfl⟩ := hr
    exact ⟨by rw [getV, hg, ← hpv]; rfl, rfl⟩
  have CG := Lib.hid (CG.mono e0)
  have CW := Lib.hid (refWithout_calls nv now hnow s base w hbase h2)
  obtain ⟨nA, nc, rfl⟩ := h2.form
  obtain ⟨cA, cc, rfl⟩ := h4.form
  have HAFTER : Hid (∀ (A1 : Option Addr) (c1 : Nat) (W : World), FilesN w.heap.size W base (.slice A1 (now.filter (neN s)).length c1) (now.filter (neN s)) → Below w.heap.size w W →
      RD W q room fails (.slice nA now.length nc) sv (.slice cA chs.length cc) ∧ RD (W.setCell ⟨q, 2, none⟩ (.slice A1 (now.filter (neN s)).length c1)) q room fails (.slice A1 (now.filter (neN s)).length c1) sv (.slice cA chs.length cc) ∧
      ∃ A' c' W', Hid ((Builtin.append_ #[30, 30] 30 #[.slice cA chs.length cc, .slice (some ⟨W.heap.size, 0, none⟩) 1 1]).run Try.prog ((W.setCell ⟨q, 2, none⟩ (.slice A1 (now.filter (neN s)).length c1)).alloc (.cells #[.int .i64 2, .string s, .int .i64 0, .slice none 0 0] 97)) = .ok (.slice A' (chs.length + 1) c') W') ∧
        RD W' q room fails (.slice A1 (now.filter (neN s)).length c1) sv (.slice cA chs.length cc) ∧ Hid (RefO w base q 0 room fails (now.filter (neN s)) safe (chs ++ [(⟨2, s, 0, []⟩, .slice none 0 0)]) (.returned (.int .i64 0)) (W'.setCell ⟨q, 4, none⟩ (.slice A' (chs.length + 1) c')))) := Lib.hid fun A1 c1 W hF hB => by
    have q1 := h1.below hB
    have q2 := rd_set2 q1 (.slice A1 (now.filter (neN s)).length c1)
    refine ⟨q1, q2, ?_⟩
    have hW : base ≤ W.heap.size := Nat.le_trans hbase hB.size
    have hF1 := (RefK.of_below hb h1.lt hB).put q1 2 (.slice A1 (now.filter (neN s)).length c1) fun g hg => .inr (hF.2 g hg)
    have g1 := files_set (u := .slice A1 (now.filter (neN s)).length c1) hF.1 q1 2
    have g2 := files_set (u := .slice A1 (now.filter (neN s)).length c1) (h3.below hB) q1 2
    have g3 := chs_set (u := .slice A1 (now.filter (neN s)).length c1) (h4.below hB) q1 2
    obtain ⟨W2, hW2⟩ : ∃ W2, W.setCell ⟨q, 2, none⟩ (.slice A1 (now.filter (neN s)).length c1) = W2 := ⟨_, rfl⟩
    have hsz : W2.heap.size = W.heap.size := by rw [← hW2]; simp [World.setCell]
    rw [hW2] at q2 hF1 g1 g2 g3 ⊢
    have hB2 := (Below.refl W2.heap.size W2).alloc (Nat.le_refl _) (.cells #[.int .i64 2, .string s, .int .i64 0, .slice none 0 0] 97)
    have hW2b : base ≤ W2.heap.size := by rw [hsz]; exact hW
    obtain ⟨A', c', W', hrun, k1, k2, k3⟩ := ref_push hb (q2.below hB2) (g1.below hB2) (g2.below hB2) (g3.below hB2) (Nat.le_trans hW2b hB2.size) 30 W2.heap.size (⟨2, s, 0, []⟩, .slice none 0 0) (by simp only [World.alloc, Array.getElem?_push_size]; rfl) (Buf.nil _ _ _) (by omega) (hF1.then_below hB2)
    refine ⟨A', c', W', Lib.hid (by rw [← hsz]; exact hrun), k1, Lib.hid ⟨rfl, k2, ?_⟩⟩
    exact k3
  obtain ⟨⟨_, _, c2, _⟩, _⟩ := h1.cells
  obtain ⟨N, hN⟩ : ∃ N, now.length = N := ⟨_, rfl⟩
  obtain ⟨C, hC⟩ : ∃ C, chs.length = C := ⟨_, rfl⟩
  obtain ⟨M, hM⟩ : ∃ M, p.1.2.length = M := ⟨_, rfl⟩
  obtain ⟨F, hFF⟩ : ∃ F, (now.filter (neN s)).length = F := ⟨_, rfl⟩
  rw [hN] at c2 CG CW
  rw [hM] at CG
  rw [hN, hC, hFF] at HAFTER
  have e1 : ∀ e W, FilesO w base (now.filter (neN s)) e W → ∃ A c, e = .returned (.slice A F c) ∧ Hid (FilesN w.heap.size W base (.slice A F c) (now.filter (neN s)) ∧ Below w.heap.size w W) := fun e W hr => by
    obtain ⟨A, c, rfl, h1, h2⟩ := hr
    rw [hFF] at h1 ⊢
    exact ⟨A, c, rfl, Lib.hid ⟨h1, h2⟩⟩
  have CW2 := Lib.hid (CW.out.mono e1)
  clear e1
  clear hn h1 h2 h3 h4 e0 hN hg hC hM hFF CW hpv hp
  go_enter Try.func32, Try.ntmps32
  go_wp2_with fail
  refine CR.out.mono ?_
  clear CR
  rintro e W ⟨rfl, rfl⟩
  go_wp2_with fail
  refine CG.out.mono ?_
  clear CG
  rintro e W ⟨rfl, rfl⟩
  go_wp2_with fail
  refine CW2.out.mono ?_
  clear CW2
  rintro e W2 ⟨A1, c1, rfl, HW⟩
  obtain ⟨q1, q2, A', c', W3, HR, q3, HFIN⟩ := HAFTER.out A1 c1 W2 HW.out.1 HW.out.2
  clear HAFTER HW
  obtain ⟨⟨a0, a1, a2, a3, a4⟩, af⟩ := q1.cells
  obtain ⟨⟨b0, b1, b2, b3, b4⟩, bf⟩ := q2.cells
  obtain ⟨⟨d0, d1, d2, d3, d4⟩, df⟩ := q3.cells
  have af2 := af 2
  have df4 := df 4
  clear q1 q2 q3 a0 a1 a3 a4 b0 b1 b2 b3 d0 d1 d2 d3 af bf df c2
  go_wp2_with (at_builtin; refine wpList_append_ran rfl _ _ _ rfl rfl rfl HR.out ?_)
  go_ret
  exact HFIN.out

end Go.Proofs.Ytmegiilkcidanaa.Disk

/-
  Contracts of the document's disk's Cut.
-/
namespace Go.Proofs.Ytmegiilkcidanaa.Disk
open Go Go.RowKit Go.Sort Go.Lib Go.Proofs.Ytmegiilkcidanaa.Law

/-- The front of a buffer, its room kept. -/
theorem buf_front {W : World} {base : Nat} {e : TypeId} {A : Option Addr} {len cap : Nat} {bs : List Nat} (h : Buf W base e (.slice A len cap) bs) (k : Nat) (hk : k ≤ bs.length) : Buf W base e (.slice A k cap) (bs.take k) := by
  have hl : (bs.take k).length = k := by rw [List.length_take]; omega
  refine ⟨fun x hx => h.1 x (List.mem_of_mem_take hx), ?_⟩
  rcases h.2 with ⟨hv, rfl⟩ | ⟨g, cap', cur, hv, hb, hg, hn, hc, hm, ht⟩
  · simp only [Value.slice.injEq] at hv
    obtain ⟨rfl, _, rfl⟩ := hv
    have : k = 0 := by simpa using hk
    subst this
    exact .inl ⟨rfl, rfl⟩
  · simp only [Value.slice.injEq] at hv
    obtain ⟨rfl, rfl, rfl⟩ := hv
    refine .inr ⟨g, cap, cur, by rw [hl], hb, hg, by omega, hc, hm, ?_⟩
    rw [hl]
    have : (cur.toList.take bs.length).take k = cur.toList.take k := by rw [List.take_take]; congr 1; omega
    rw [← this, ht]
    simp [vals, List.map_take]

set_option maxRecDepth 100000 in
set_option maxHeartbeats 2000000 in
theorem refCut_no (n : Nat) (hn0 : n ≠ 0) (w : World) (base q : Nat) (room : Int) (fails : Bool) (now safe : List RF) (chs : List RC) (h : RefD w base q room fails now safe chs) (s : ByteArray) (hs63 : s.size ≤ 9223372036854775807) (k : Int) (hn : refN fails s k = n) :
    Calls Try.prog 31 #[.pointer (some ⟨q, 0, none⟩), .string s, .int .i64 k] w (RefO w base q n room fails now safe chs) := by
  have HF : Hid (RefO w base q n room fails now safe chs (.returned (.int .i64 (n : Nat))) w) := Lib.hid ⟨rfl, h, h.keep⟩
  obtain ⟨hb, nv, sv, cv, h1, h2, h3, h4⟩ := h
  have CR := Lib.hid (refReady_calls q room fails nv sv cv s hs63 k w h1)
  rw [hn] at CR
  have hnI : ((n : Int) == 0) = false := by rw [beq_eq_false_iff_ne]; omega
  clear hn h1 h2 h3 h4
  go_enter Try.func31, Try.ntmps31
  go_wp2_with fail
  refine CR.out.mono ?_
  clear CR
  rintro e W ⟨rfl, rfl⟩
  go_wp2_with fail
  go_ret
  exact HF.out

set_option maxRecDepth 100000 in
set_option maxHeartbeats 2000000 in
theorem refCut_none (w : World) (base q : Nat) (room : Int) (fails : Bool) (now safe : List RF) (hnow : now.length ≤ 1000000) (chs : List RC) (h : RefD w base q room fails now safe chs) (s : ByteArray) (hs63 : s.size ≤ 9223372036854775807) (k : Int) (hn : refN fails s k = 0) (hg : getF now s = none) :
    Calls Try.prog 31 #[.pointer (some ⟨q, 0, none⟩), .string s, .int .i64 k] w (RefO w base q 7 room fails now safe chs) := by
  have HF : Hid (RefO w base q 7 room fails now safe chs (.returned (.int .i64 7)) w) := Lib.hid ⟨rfl, h, h.keep⟩
  obtain ⟨hb, nv, sv, cv, h1, h2, h3, h4⟩ := h
  have CR := Lib.hid (refReady_calls q room fails nv sv cv s hs63 k w h1)
  rw [hn] at CR
  have CG := refGet_calls nv now (by omega) s base w h2
  have e0 : ∀ e W, GetR w now s e W → e = .returned (.tuple #[.slice none 0 0, .bool false]) ∧ W = w := fun e W hr => by
    obtain ⟨rfl, rfl⟩ := hr
    exact ⟨by rw [getV, hg]; rfl, rfl⟩
  have CG := Lib.hid (CG.mono e0)
  obtain ⟨nA, nc, rfl⟩ := h2.form
  obtain ⟨N, hN⟩ : ∃ N, now.length = N := ⟨_, rfl⟩
  obtain ⟨⟨_, _, c2, _⟩, _⟩ := h1.cells
  rw [hN] at c2 CG
  clear hn h1 h2 h3 h4 e0 hN hg
  go_enter Try.func31, Try.ntmps31
  go_wp2_with fail
  refine CR.out.mono ?_
  clear CR
  rintro e W ⟨rfl, rfl⟩
  go_wp2_with fail
  refine CG.out.mono ?_
  clear CG
  rintro e W ⟨rfl, rfl⟩
  go_wp2_with fail
  go_ret
  exact HF.out

set_option maxRecDepth 100000 in
set_option maxHeartbeats 2000000 in
theorem refCut_range (w : World) (base q : Nat) (room : Int) (fails : Bool) (now safe : List RF) (hnow : now.length ≤ 1000000) (chs : List RC) (h : RefD w base q room fails now safe chs) (s : ByteArray) (hs63 : s.size ≤ 9223372036854775807) (k : Nat) (hn : refN fails s (k : Nat) = 0) (p : RF) (hg : getF now s = some p) (hp : p ∈ now) (hk : p.1.2.length < k) :
    Calls Try.prog 31 #[.pointer (some ⟨q, 0, none⟩), .string s, .int .i64 (k : Nat)] w (RefO w base q 8 room fails now safe chs) := by
  have HF : Hid (RefO w base q 8 room fails now safe chs (.returned (.int .i64 8)) w) := Lib.hid ⟨rfl, h, h.keep⟩
  obtain ⟨hb, nv, sv, cv, h1, h2, h3, h4⟩ := h
  have CR := Lib.hid (refReady_calls q room fails nv sv cv s hs63 (k : Nat) w h1)
  rw [hn] at CR
  have CG := refGet_calls nv now (by omega) s base w h2
  obtain ⟨pA, pc, hpv, _⟩ := (h2.2 p hp).form
  have e0 : ∀ e W, GetR w now s e W → e = .returned (.tuple #[.slice pA p.1.2.length pc, .bool true]) ∧ W = w := fun e W hr => by
    obtain ⟨rfl, rfl⟩ := hr
    exact ⟨by rw [getV, hg, ← hpv]; rfl, rfl⟩
  have CG := Lib.hid (CG.mono e0)
  obtain ⟨nA, nc, rfl⟩ := h2.form
  obtain ⟨⟨_, _, c2, _⟩, _⟩ := h1.cells
  obtain ⟨N, hN⟩ : ∃ N, now.length = N := ⟨_, rfl⟩
  obtain ⟨M, hM⟩ : ∃ M, p.1.2.length = M := ⟨_, rfl⟩
  rw [hN] at c2 CG
  rw [hM] at CG hk
  have hkI : (M : Int) < (k : Int) := by omega
  clear hn h1 h2 h3 h4 e0 hN hg hM hpv hp
  go_enter Try.func31, Try.ntmps31
  go_wp2_with fail
  refine CR.out.mono ?_
  clear CR
  rintro e W ⟨rfl, rfl⟩
  go_wp2_with fail
  refine CG.out.mono ?_
  clear CG
  rintro e W ⟨rfl, rfl⟩
  go_wp2_with fail
  go_ret
  exact HF.out

set_option maxRecDepth 100000 in
set_option maxHeartbeats 2000000 in
theorem refCut_ok (w : World) (base q : Nat) (hbase : base ≤ w.heap.size) (room : Int) (fails : Bool) (now safe : List RF) (hnow : now.length ≤ 1000000) (chs : List RC) (hchs : chs.length ≤ 1000000) (h : RefD w base q room fails now safe chs) (s : ByteArray) (hs63 : s.size ≤ 9223372036854775807) (k : Nat) (hn : refN fails s (k : Nat) = 0) (p : RF) (hg : getF now s = some p) (hp : p ∈ now) (hk : k ≤ p.1.2.length) (pA : Option Addr) (pc : Nat) (hpv : p.2 = .slice pA p.1.2.length pc) :
    Calls Try.prog 31 #[.pointer (some ⟨q, 0, none⟩), .string s, .int .i64 (k : Nat)] w (RefO w base q 0 room fails (withF s ((s, p.1.2.take k), .slice pA k pc) now) safe (chs ++ [(⟨1, s, k, []⟩, .slice none 0 0)])) := by
  obtain ⟨hb, nv, sv, cv, h1, h2, h3, h4⟩ := h
  have CR := Lib.hid (refReady_calls q room fails nv sv cv s hs63 (k : Nat) w h1)
  rw [hn] at CR
  have CG := refGet_calls nv now (by omega) s base w h2
  have hpb := h2.2 p hp
  rw [hpv] at hpb
  have hcapB : p.1.2.length ≤ pc := by
    obtain ⟨A0, c0, he, hle⟩ := hpb.form
    simp only [Value.slice.injEq] at he
    omega
  have hfr := buf_front hpb k hk
  have e0 : ∀ e W, GetR w now s e W → e = .returned (.tuple #[.slice pA p.1.2.length pc, .bool true]) ∧ W = w := fun e W hr => by
    obtain ⟨rfl, rfl⟩ := hr
    exact ⟨by rw [getV, hg, ← hpv]; rfl, rfl⟩
  have CG := Lib.hid (CG.mono e0)
  have CW : Hid (∀ W0, Below w.heap.size w W0 → Calls Try.prog 51 #[nv, .string s, .slice pA k pc] W0 (FilesO W0 base (withF s ((s, p.1.2.take k), .slice pA k pc) now))) := Lib.hid fun W0 h0 =>
    refWith_calls nv (.slice pA k pc) now hnow s (p.1.2.take k) base W0 (Nat.le_trans hbase h0.size) (h2.below h0) (hfr.below h0)
  obtain ⟨nA, nc, rfl⟩ := h2.form
  obtain ⟨cA, cc, rfl⟩ := h4.form
  have HAFTER : Hid (∀ (A1 : Option Addr) (c1 : Nat) (W : World), FilesN w.heap.size W base (.slice A1 (withF s ((s, p.1.2.take k), .slice pA k pc) now).length c1) (withF s ((s, p.1.2.take k), .slice pA k pc) now) → Below w.heap.size w W →
      RD W q room fails (.slice nA now.length nc) sv (.slice cA chs.length cc) ∧ RD (W.setCell ⟨q, 2, none⟩ (.slice A1 (withF s ((s, p.1.2.take k), .slice pA k pc) now).length c1)) q room fails (.slice A1 (withF s ((s, p.1.2.take k), .slice pA k pc) now).length c1) sv (.slice cA chs.length cc) ∧
      ∃ A' c' W', Hid ((Builtin.append_ #[30, 30] 30 #[.slice cA chs.length cc, .slice (some ⟨W.heap.size, 0, none⟩) 1 1]).run Try.prog ((W.setCell ⟨q, 2, none⟩ (.slice A1 (withF s ((s, p.1.2.take k), .slice pA k pc) now).length c1)).alloc (.cells #[.int .i64 1, .string s, .int .i64 (k : Nat), .slice none 0 0] 97)) = .ok (.slice A' (chs.length + 1) c') W') ∧
        RD W' q room fails (.slice A1 (withF s ((s, p.1.2.take k), .slice pA k pc) now).length c1) sv (.slice cA chs.length cc) ∧ Hid (RefO w base q 0 room fails (withF s ((s, p.1.2.take k), .slice pA k pc) now) safe (chs ++ [(⟨1, s, k, []⟩, .slice none 0 0)]) (.returned (.int .i64 0)) (W'.setCell ⟨q, 4, none⟩ (.slice A' (chs.length + 1) c')))) := Lib.hid fun A1 c1 W hF hB => by
    have q1 := h1.below hB
    have q2 := rd_set2 q1 (.slice A1 (withF s ((s, p.1.2.take k), .slice pA k pc) now).length c1)
    refine ⟨q1, q2, ?_⟩
    have hW : base ≤ W.heap.size := Nat.le_trans hbase hB.size
    have hF1 := (RefK.of_below hb h1.lt hB).put q1 2 (.slice A1 (withF s ((s, p.1.2.take k), .slice pA k pc) now).length c1) fun g hg => .inr (hF.2 g hg)
    have g1 := files_set (u := .slice A1 (withF s ((s, p.1.2.take k), .slice pA k pc) now).length c1) hF.1 q1 2
    have g2 := files_set (u := .slice A1 (withF s ((s, p.1.2.take k), .slice pA k pc) now).length c1) (h3.below hB) q1 2
    have g3 := chs_set (u := .slice A1 (withF s ((s, p.1.2.take k), .slice pA k pc) now).length c1) (h4.below hB) q1 2
    obtain ⟨W2, hW2⟩ : ∃ W2, W.setCell ⟨q, 2, none⟩ (.slice A1 (withF s ((s, p.1.2.take k), .slice pA k pc) now).length c1) = W2 := ⟨_, rfl⟩
    have hsz : W2.heap.size = W.heap.size := by rw [← hW2]; simp [World.setCell]
    rw [hW2] at q2 hF1 g1 g2 g3 ⊢
    have hB2 := (Below.refl W2.heap.size W2).alloc (Nat.le_refl _) (.cells #[.int .i64 1, .string s, .int .i64 (k : Nat), .slice none 0 0] 97)
    have hW2b : base ≤ W2.heap.size := by rw [hsz]; exact hW
    obtain ⟨A', c', W', hrun, k1, k2, k3⟩ := ref_push hb (q2.below hB2) (g1.below hB2) (g2.below hB2) (g3.below hB2) (Nat.le_trans hW2b hB2.size) 30 W2.heap.size (⟨1, s, k, []⟩, .slice none 0 0) (by simp only [World.alloc, Array.getElem?_push_size]; rfl) (Buf.nil _ _ _) (by omega) (hF1.then_below hB2)
    refine ⟨A', c', W', Lib.hid (by rw [← hsz]; exact hrun), k1, Lib.hid ⟨rfl, k2, ?_⟩⟩
    exact k3
  obtain ⟨⟨_, _, c2, _⟩, _⟩ := h1.cells
  obtain ⟨N, hN⟩ : ∃ N, now.length = N := ⟨_, rfl⟩
  obtain ⟨C, hC⟩ : ∃ C, chs.length = C := ⟨_, rfl⟩
  obtain ⟨M, hM⟩ : ∃ M, p.1.2.length = M := ⟨_, rfl⟩
  obtain ⟨F, hFF⟩ : ∃ F, (withF s ((s, p.1.2.take k), .slice pA k pc) now).length = F := ⟨_, rfl⟩
  rw [hN] at c2 CG CW
  rw [hM] at CG hk hcapB
  have hkI : (k : Int) ≤ (M : Int) := by omega
  have hcI : (M : Int) ≤ (pc : Int) := by omega
  rw [hN, hC, hFF] at HAFTER
  have e1 : ∀ W0, Below w.heap.size w W0 → ∀ e W, FilesO W0 base (withF s ((s, p.1.2.take k), .slice pA k pc) now) e W → ∃ A c, e = .returned (.slice A F c) ∧ Hid (FilesN w.heap.size W base (.slice A F c) (withF s ((s, p.1.2.take k), .slice pA k pc) now) ∧ Below w.heap.size w W) := fun W0 h0 e W hr => by
    obtain ⟨A, c, rfl, h1, h2⟩ := hr
    rw [hFF] at h1 ⊢
    exact ⟨A, c, rfl, Lib.hid ⟨h1.old h0.size, h0.trans (h2.mono h0.size)⟩⟩
  have CW2 := Lib.hid (fun W0 (h0 : Below w.heap.size w W0) => (CW.out W0 h0).mono (e1 W0 h0))
  clear e1
  have HBD : Hid (Below w.heap.size w w.drew) := Lib.hid (Below.refl _ _).drew
  clear hn h1 h2 h3 h4 e0 hN hg hC hM hFF CW hpv hp hpb hfr
  go_enter Try.func31, Try.ntmps31
  go_wp2_with fail
  refine CR.out.mono ?_
  clear CR
  rintro e W ⟨rfl, rfl⟩
  go_wp2_with fail
  refine CG.out.mono ?_
  clear CG
  rintro e W ⟨rfl, rfl⟩
  go_wp2_with fail
  have hkc : (k : Int) ≤ (pc : Int) := by omega
  go_region_with (go_at_call 51; ((with_reducible refine (CW2.out _ HBD.out).mono ?_); rintro e W2 ⟨A1, c1, rfl, HW⟩; obtain ⟨q1, q2, A', c', W3, HR, q3, HFIN⟩ := HAFTER.out A1 c1 W2 HW.out.1 HW.out.2; clear HAFTER HW; obtain ⟨⟨a0, a1, a2, a3, a4⟩, af⟩ := q1.cells; obtain ⟨⟨b0, b1, b2, b3, b4⟩, bf⟩ := q2.cells; obtain ⟨⟨d0, d1, d2, d3, d4⟩, df⟩ := q3.cells; have af2 := af 2; have df4 := df 4; clear q1 q2 q3 a0 a1 a3 a4 b0 b1 b2 b3 d0 d1 d2 d3 af bf df c2))
  all_goals
    go_wp2_with (at_builtin; refine wpList_append_ran rfl _ _ _ rfl rfl rfl HR.out ?_)
    go_ret
    exact HFIN.out

end Go.Proofs.Ytmegiilkcidanaa.Disk

/-
  Contracts of the document's disk's Write where it refuses.
-/
namespace Go.Proofs.Ytmegiilkcidanaa.Disk
open Go Go.RowKit Go.Sort Go.Lib Go.Proofs.Ytmegiilkcidanaa.Law

/-- A name's bytes. -/
def getB (ps : List RF) (s : ByteArray) : List Nat := match getF ps s with
  | some p => p.1.2
  | none => []
theorem getV_buf {W : World} {base : Nat} {v : Value} {ps : List RF} {s : ByteArray} (h : FilesAt W base v ps) : Buf W base 5 (getV ps s) (getB ps s) := by
  rcases getF_cases ps s with ⟨h1, _⟩ | ⟨i, hi, h1, _⟩
  · rw [getV, getB, h1]; exact Buf.nil _ _ _
  · rw [getV, getB, h1]; exact h.2 _ (List.getElem_mem _)

set_option maxRecDepth 100000 in
set_option maxHeartbeats 2000000 in
theorem refWrite_no (n : Nat) (hn0 : n ≠ 0) (w : World) (base q : Nat) (room : Int) (fails : Bool) (now safe : List RF) (chs : List RC) (h : RefD w base q room fails now safe chs) (s : ByteArray) (hs63 : s.size ≤ 9223372036854775807) (k : Int) (dv : Value) (hn : refN fails s k = n) :
    Calls Try.prog 30 #[.pointer (some ⟨q, 0, none⟩), .string s, .int .i64 k, dv] w (RefO w base q n room fails now safe chs) := by
  have HF : Hid (RefO w base q n room fails now safe chs (.returned (.int .i64 (n : Nat))) w) := Lib.hid ⟨rfl, h, h.keep⟩
  obtain ⟨hb, nv, sv, cv, h1, h2, h3, h4⟩ := h
  have CR := Lib.hid (refReady_calls q room fails nv sv cv s hs63 k w h1)
  rw [hn] at CR
  have hnI : ((n : Int) == 0) = false := by rw [beq_eq_false_iff_ne]; omega
  clear hn h1 h2 h3 h4
  go_enter Try.func30, Try.ntmps30
  go_wp2_with fail
  refine CR.out.mono ?_
  clear CR
  rintro e W ⟨rfl, rfl⟩
  go_wp2_with fail
  go_ret
  exact HF.out

set_option maxRecDepth 100000 in
set_option maxHeartbeats 2000000 in
theorem refWrite_range (w : World) (base q : Nat) (room : Int) (fails : Bool) (now safe : List RF) (hnow : now.length ≤ 1000000) (chs : List RC) (h : RefD w base q room fails now safe chs) (s : ByteArray) (hs63 : s.size ≤ 9223372036854775807) (k : Int) (dv : Value) (hn : refN fails s k = 0) (hk : ((getB now s).length : Int) < k) :
    Calls Try.prog 30 #[.pointer (some ⟨q, 0, none⟩), .string s, .int .i64 k, dv] w (RefO w base q 8 room fails now safe chs) := by
  have HF : Hid (RefO w base q 8 room fails now safe chs (.returned (.int .i64 8)) w) := Lib.hid ⟨rfl, h, h.keep⟩
  obtain ⟨hb, nv, sv, cv, h1, h2, h3, h4⟩ := h
  have CR := Lib.hid (refReady_calls q room fails nv sv cv s hs63 k w h1)
  rw [hn] at CR
  obtain ⟨tn, htn⟩ : ∃ t, (getF now s).isSome = t := ⟨_, rfl⟩
  obtain ⟨pA, pc, hpv, _⟩ := (getV_buf (s := s) h2).form
  obtain ⟨L, hL⟩ : ∃ L, (getB now s).length = L := ⟨_, rfl⟩
  rw [hL] at hpv hk
  have e0 : ∀ e W, GetR w now s e W → e = .returned (.tuple #[.slice pA L pc, .bool tn]) ∧ W = w := fun e W hr => by
    obtain ⟨rfl, rfl⟩ := hr
    exact ⟨by rw [hpv, htn], rfl⟩
  have CG := Lib.hid ((refGet_calls nv now (by omega) s base w h2).mono e0)
  obtain ⟨⟨_, _, c2, _⟩, _⟩ := h1.cells
  clear hn h1 h2 h3 h4 e0 hpv hL htn
  go_enter Try.func30, Try.ntmps30
  go_wp2_with fail
  refine CR.out.mono ?_
  clear CR
  rintro e W ⟨rfl, rfl⟩
  go_wp2_with fail
  refine CG.out.mono ?_
  clear CG
  rintro e W ⟨rfl, rfl⟩
  go_wp2_with fail
  go_ret
  exact HF.out

set_option maxRecDepth 100000 in
set_option maxHeartbeats 2000000 in
theorem refWrite_full (w : World) (base q : Nat) (room : Int) (hroom : 0 ≤ room ∧ room ≤ 1073741824) (fails : Bool) (now safe : List RF) (hnow : now.length ≤ 1000000) (hu : usedF now ≤ 1152921504606846976) (chs : List RC) (h : RefD w base q room fails now safe chs) (s : ByteArray) (hs63 : s.size ≤ 9223372036854775807) (k : Nat) (hn : refN fails s (k : Nat) = 0) (hk : k ≤ (getB now s).length) (hlen : (getB now s).length ≤ 1152921504606846976)
    (dA : Option Addr) (dl dc : Nat) (hdl : dl ≤ 1152921504606846976) (h1 : (getB now s).length < k + dl) (h2 : room < (usedF now : Int) + k + dl - (getB now s).length) :
    Calls Try.prog 30 #[.pointer (some ⟨q, 0, none⟩), .string s, .int .i64 (k : Nat), .slice dA dl dc] w (RefO w base q 6 room fails now safe chs) := by
  have HF : Hid (∀ W, Below w.heap.size w W → RefO w base q 6 room fails now safe chs (.returned (.int .i64 6)) W) := Lib.hid fun W hB => ⟨rfl, h.below hB, RefK.of_below h.1 h.lt hB⟩
  obtain ⟨hb, nv, sv, cv, g1, g2, g3, g4⟩ := h
  have CR := Lib.hid (refReady_calls q room fails nv sv cv s hs63 (k : Nat) w g1)
  rw [hn] at CR
  obtain ⟨tn, htn⟩ : ∃ t, (getF now s).isSome = t := ⟨_, rfl⟩
  obtain ⟨pA, pc, hpv, _⟩ := (getV_buf (s := s) g2).form
  obtain ⟨L, hL⟩ : ∃ L, (getB now s).length = L := ⟨_, rfl⟩
  rw [hL] at hpv hk hlen h1 h2
  have e0 : ∀ e W, GetR w now s e W → e = .returned (.tuple #[.slice pA L pc, .bool tn]) ∧ W = w := fun e W hr => by
    obtain ⟨rfl, rfl⟩ := hr
    exact ⟨by rw [hpv, htn], rfl⟩
  have CG := Lib.hid ((refGet_calls nv now (by omega) s base w g2).mono e0)
  have CU : Hid (∀ W0, (W0 = w ∨ ∃ n, W0 = w.drewN n) → Calls Try.prog 36 #[.pointer (some ⟨q, 0, none⟩)] W0 fun e W => e = .returned (.int .i64 (usedF now : Nat)) ∧ W = W0) := Lib.hid fun W0 h0 => by
    have hB : Below w.heap.size w W0 := by
      have h := Below.refl w.heap.size w
      obtain rfl | ⟨n, rfl⟩ := h0
      · exact h
      · exact ⟨h.os, h.tape, h.output, h.size, h.block⟩
    exact refUsed_calls q room fails nv sv cv now hnow hu base W0 (g1.below hB) (g2.below hB)
  obtain ⟨⟨c0, _, c2, _⟩, _⟩ := g1.cells
  obtain ⟨U, hU⟩ : ∃ U, usedF now = U := ⟨_, rfl⟩
  rw [hU] at CU hu h2
  have HBD : Hid (∀ n, Below w.heap.size w (w.drewN n)) := Lib.hid fun n => by
    have h := Below.refl w.heap.size w
    exact ⟨h.os, h.tape, h.output, h.size, h.block⟩
  have hkI : (k : Int) ≤ (L : Int) := by omega
  obtain ⟨T, hT⟩ : ∃ T, k + dl = T := ⟨_, rfl⟩
  have i1 : (k : Int) + (dl : Int) = (T : Int) := by omega
  have i2 : (L : Int) < (T : Int) := by omega
  obtain ⟨V, hV⟩ : ∃ V, U + k = V := ⟨_, rfl⟩
  have i3 : (U : Int) + (k : Int) = (V : Int) := by omega
  obtain ⟨X, hX⟩ : ∃ X, V + dl = X := ⟨_, rfl⟩
  have i4 : (V : Int) + (dl : Int) = (X : Int) := by omega
  obtain ⟨Y, hY⟩ : ∃ Y, X - L = Y := ⟨_, rfl⟩
  have i5 : (X : Int) - (L : Int) = (Y : Int) := by omega
  have i6 : room < (Y : Int) := by omega
  have i7 : (X : Int) ≤ 9223372036854775807 := by omega
  clear hn g1 g2 g3 g4 e0 hpv hL htn hU hT hV hX hY h1 h2
  go_enter Try.func30, Try.ntmps30
  go_wp2_with fail
  refine CR.out.mono ?_
  clear CR
  rintro e W ⟨rfl, rfl⟩
  go_wp2_with fail
  refine CG.out.mono ?_
  clear CG
  rintro e W ⟨rfl, rfl⟩
  go_wp2_with fail
  go_quiet ((go_at_call 36; exact Calls.quiet_of_same (CU.out _ (.inr ⟨_, rfl⟩))))
  go_wp2_with fail
  go_ret
  exact HF.out _ (HBD.out _)

end Go.Proofs.Ytmegiilkcidanaa.Disk

/-
  The contract of the document's disk's Write where it writes.
-/
namespace Go.Proofs.Ytmegiilkcidanaa.Disk
open Go Go.RowKit Go.Sort Go.Lib Go.Proofs.Ytmegiilkcidanaa.Law

def WriteO (w : World) (base q : Nat) (room : Int) (fails : Bool) (now safe : List RF) (chs : List RC) (s : ByteArray) (out : List Nat) (k : Nat) (ds : List Nat) (e : Ending) (W : World) : Prop :=
  ∃ ov xv, (∀ g, ov.ownBlock = some g → w.heap.size ≤ g) ∧ (∀ g, xv.ownBlock = some g → w.heap.size ≤ g) ∧ RefO w base q 0 room fails (withF s ((s, out), ov) now) safe (chs ++ [(⟨0, s, k, ds⟩, xv)]) e W

/-- What the two writing regions leave, laid ahead. -/
theorem write_after {w : World} {base q : Nat} {room : Int} {fails : Bool} {now safe : List RF} {chs : List RC} {nv sv cv dv ov : Value} {s : ByteArray} {out ds : List Nat} {k F : Nat} (hb : base ≤ q) (hbase : base ≤ w.heap.size) (hchs : chs.length ≤ 1000000) (hd : ds.length ≤ 4294967296)
    (h1 : RD w q room fails nv sv cv) (h3 : FilesAt w base sv safe) (h4 : ChsAt w base cv chs) (hD : Bytes base w dv ds) {A1 : Option Addr} {c1 : Nat} {W5 : World} (hov : ∀ g, ov.ownBlock = some g → w.heap.size ≤ g) (hB : Below w.heap.size w W5) (hf : FilesN w.heap.size W5 base (.slice A1 F c1) (withF s ((s, out), ov) now)) :
    RD W5 q room fails nv sv cv ∧ RD (W5.setCell ⟨q, 2, none⟩ (.slice A1 F c1)) q room fails (.slice A1 F c1) sv cv ∧ ∃ Ax cx W7, Hid ((Builtin.append_ #[34, 34] 34 #[.slice (some ⟨W5.heap.size, 0, none⟩) 0 0, dv]).run Try.prog ((((W5.setCell ⟨q, 2, none⟩ (.slice A1 F c1))).alloc (.cells #[] 5)).drew) = .ok (.slice Ax ds.length cx) W7) ∧ RD W7 q room fails (.slice A1 F c1) sv cv ∧
      ∃ A' c' W8, Hid ((Builtin.append_ #[30, 30] 30 #[cv, .slice (some ⟨W7.heap.size, 0, none⟩) 1 1]).run Try.prog (W7.alloc (.cells #[.int .i64 0, .string s, .int .i64 (k : Nat), .slice Ax ds.length cx] 97)) = .ok (.slice A' (chs.length + 1) c') W8) ∧
        RD W8 q room fails (.slice A1 F c1) sv cv ∧ Hid (WriteO w base q room fails now safe chs s out k ds (.returned (.int .i64 0)) (W8.setCell ⟨q, 4, none⟩ (.slice A' (chs.length + 1) c'))) := by
  obtain ⟨i0, hi, hz0, hz1, hz2⟩ := info_parts info_u8
  have q5 := h1.below hB
  have hW5 : base ≤ W5.heap.size := Nat.le_trans hbase hB.size
  have q6 := rd_set2 q5 (.slice A1 F c1)
  refine ⟨q5, q6, ?_⟩
  have g1 := files_set (u := .slice A1 F c1) hf.1 q5 2
  have g2 := files_set (u := .slice A1 F c1) (h3.below hB) q5 2
  have g3 := chs_set (u := .slice A1 F c1) (h4.below hB) q5 2
  have hF6 : RefK base q w (W5.setCell ⟨q, 2, none⟩ (.slice A1 F c1)) := (RefK.of_below hb h1.lt hB).put q5 2 _ fun g hg => .inr (hf.2 g hg)
  obtain ⟨W6, hW6⟩ : ∃ W6, W5.setCell ⟨q, 2, none⟩ (.slice A1 F c1) = W6 := ⟨_, rfl⟩
  have hsz : W5.heap.size = W6.heap.size := by rw [← hW6]; simp [World.setCell]
  rw [hW6] at q6 g1 g2 g3 hF6 ⊢
  rw [hsz] at hW5 ⊢
  have hl := World.ownsRow_lit (base := W6.heap.size) (size := 1) (e := 5) W6 #[] 0 (Nat.le_refl _) (by simp [maxLen]) rfl
  have hlo : OwnB ((W6.alloc (.cells #[] 5)).drew) W6.heap.size 5 (.slice (some ⟨W6.heap.size, 0, none⟩) 0 0) [] := OwnB.drew ⟨hl, by simp⟩
  have hB6 : Below W6.heap.size W6 ((W6.alloc (.cells #[] 5)).drew) := ((Below.refl _ _).alloc (Nat.le_refl _) _).drew
  have hD7 : Bytes base ((W6.alloc (.cells #[] 5)).drew) dv ds := (hD.below hF6.low).below (hB6.mono hW5)
  obtain ⟨v7, W7, R7, O7, G7, _⟩ := run_append_bytes (P := Try.prog) ((W6.alloc (.cells #[] 5)).drew) 34 Try.underlying34 hi hz0 hz1 hz2 rfl hlo hD7 (by simp; omega) hB6.size
  have hB7 : Below W6.heap.size W6 W7 := below_append hB6 G7 hlo (Nat.le_refl _) hB6.size
  rw [List.nil_append] at O7
  obtain ⟨Ax, cx, rfl⟩ := O7.bytes.form
  have q7 := q6.below hB7
  refine ⟨Ax, cx, W7, Lib.hid R7, q7, ?_⟩
  have hB8 := (Below.refl W7.heap.size W7).alloc (Nat.le_refl _) (.cells #[.int .i64 0, .string s, .int .i64 (k : Nat), .slice Ax ds.length cx] 97)
  have hW7 : base ≤ W7.heap.size := Nat.le_trans hW5 hB7.size
  obtain ⟨A', c', W8, hrun, k1, k2, k3⟩ := ref_push hb (q7.below hB8) ((g1.below hB7).below hB8) ((g2.below hB7).below hB8) ((g3.below hB7).below hB8) (Nat.le_trans hW7 hB8.size) 30 W7.heap.size (⟨0, s, k, ds⟩, .slice Ax ds.length cx) (by simp only [World.alloc, Array.getElem?_push_size]; rfl) (((Buf.of_own O7).lower hW5).below hB8) (by omega) ((hF6.then_below hB7).then_below hB8)
  exact ⟨A', c', W8, Lib.hid hrun, k1, Lib.hid ⟨ov, _, hov, fun g hg => Nat.le_trans hF6.low.size (row_new O7.1 g hg), rfl, k2, k3⟩⟩

set_option maxRecDepth 100000 in
set_option maxHeartbeats 2000000 in
theorem refWrite_ok (w : World) (base q : Nat) (hbase : base ≤ w.heap.size) (room : Int) (fails : Bool) (now safe : List RF) (hnow : now.length ≤ 1000000) (hu : usedF now ≤ 1152921504606846976) (chs : List RC) (hchs : chs.length ≤ 1000000) (h : RefD w base q room fails now safe chs) (s : ByteArray) (hs63 : s.size ≤ 9223372036854775807) (k : Nat) (hn : refN fails s (k : Nat) = 0) (hk : k ≤ (getB now s).length) (hlen : (getB now s).length ≤ 4294967296)
    (dA : Option Addr) (dl dc : Nat) (ds : List Nat) (hdl : ds.length = dl) (hdm : dl ≤ 4294967296) (hD : Bytes base w (.slice dA dl dc) ds) (hfit : (getB now s).length < k + dl → (usedF now : Int) + k + dl - (getB now s).length ≤ room) :
    Calls Try.prog 30 #[.pointer (some ⟨q, 0, none⟩), .string s, .int .i64 (k : Nat), .slice dA dl dc] w (WriteO w base q room fails now safe chs s (overL (getB now s) k ds) k ds) := by
  obtain ⟨hb, nv, sv, cv, g1, g2, g3, g4⟩ := h
  have CR := Lib.hid (refReady_calls q room fails nv sv cv s hs63 (k : Nat) w g1)
  rw [hn] at CR
  obtain ⟨tn, htn⟩ : ∃ t, (getF now s).isSome = t := ⟨_, rfl⟩
  have hgb := getV_buf (s := s) g2
  obtain ⟨pA, pc, hpv, _⟩ := hgb.form
  obtain ⟨gb, hgbe⟩ : ∃ gb, getB now s = gb := ⟨_, rfl⟩
  rw [hgbe] at hpv hk hlen hfit hgb ⊢
  obtain ⟨L, hL⟩ : ∃ L, gb.length = L := ⟨_, rfl⟩
  rw [hL] at hpv
  have e0 : ∀ e W, GetR w now s e W → e = .returned (.tuple #[.slice pA L pc, .bool tn]) ∧ W = w := fun e W hr => by
    obtain ⟨rfl, rfl⟩ := hr
    exact ⟨by rw [hpv, htn], rfl⟩
  have CG := Lib.hid ((refGet_calls nv now (by omega) s base w g2).mono e0)
  rw [hpv] at hgb
  have CU : Hid (∀ W0, (W0 = w ∨ ∃ n, W0 = w.drewN n) → Calls Try.prog 36 #[.pointer (some ⟨q, 0, none⟩)] W0 fun e W => e = .returned (.int .i64 (usedF now : Nat)) ∧ W = W0) := Lib.hid fun W0 h0 => by
    have hB : Below w.heap.size w W0 := by
      have h := Below.refl w.heap.size w
      obtain rfl | ⟨n, rfl⟩ := h0
      · exact h
      · exact ⟨h.os, h.tape, h.output, h.size, h.block⟩
    exact refUsed_calls q room fails nv sv cv now hnow hu base W0 (g1.below hB) (g2.below hB)
  obtain ⟨out, hout⟩ : ∃ out, overL gb k ds = out := ⟨_, rfl⟩
  rw [hout]
  obtain ⟨E, hE⟩ : ∃ E, out.length = E := ⟨_, rfl⟩
  have CO : Hid (∀ W0, Below w.heap.size w W0 → Calls Try.prog 52 #[.slice pA L pc, .int .i64 (k : Nat), .slice dA dl dc] W0 fun e W => ∃ A c, e = .returned (.slice A E c) ∧ Hid (Buf W base 5 (.slice A E c) out ∧ Below w.heap.size w W ∧ ∀ g, (Value.slice A E c).ownBlock = some g → w.heap.size ≤ g)) := Lib.hid fun W0 h0 => by
    refine (refOver_calls (.slice pA L pc) (.slice dA dl dc) gb ds k hk hlen (by omega) W0 ((hgb.below h0).bytes) ((hD.below (h0.mono hbase)).more (Nat.le_trans hbase h0.size))).mono ?_
    rintro e W ⟨A, c, rfl, hO, hB⟩
    rw [hout, hE] at hO ⊢
    exact ⟨A, c, rfl, Lib.hid ⟨(Buf.of_own hO).lower (Nat.le_trans hbase h0.size), h0.trans (hB.mono h0.size), fun g hg => Nat.le_trans h0.size (row_new hO.1 g hg)⟩⟩
  have CW : Hid (∀ W0 A c, Below w.heap.size w W0 → Buf W0 base 5 (.slice A E c) out → Calls Try.prog 51 #[nv, .string s, .slice A E c] W0 fun e W => ∃ A1 F c1, e = .returned (.slice A1 F c1) ∧ Hid (FilesN w.heap.size W base (.slice A1 F c1) (withF s ((s, out), .slice A E c) now) ∧ Below w.heap.size w W)) := Lib.hid fun W0 A c h0 hbuf => by
    refine (refWith_calls nv (.slice A E c) now hnow s out base W0 (Nat.le_trans hbase h0.size) (g2.below h0) hbuf).mono ?_
    rintro e W ⟨A1, c1, rfl, hF, hB⟩
    exact ⟨A1, _, c1, rfl, Lib.hid ⟨hF.old h0.size, h0.trans (hB.mono h0.size)⟩⟩
  have HQ : Hid (∀ W, Below w.heap.size w W → W.cell? ⟨q, 2, none⟩ = some nv) := Lib.hid fun W hB => (g1.below hB).cells.1.2.2.1
  have HAFTER := Lib.hid (fun (A1 : Option Addr) (F c1 : Nat) (W5 : World) (ov : Value) (hov : ∀ g, ov.ownBlock = some g → w.heap.size ≤ g) (hB : Below w.heap.size w W5) (hf : FilesN w.heap.size W5 base (.slice A1 F c1) (withF s ((s, out), ov) now)) => write_after (k := k) hb hbase hchs (by omega) g1 g3 g4 hD hov hB hf)
  obtain ⟨⟨c0, _, c2, _⟩, _⟩ := g1.cells
  obtain ⟨U, hU⟩ : ∃ U, usedF now = U := ⟨_, rfl⟩
  rw [hU] at CU hu hfit
  rw [hL] at hk hlen hfit
  obtain ⟨C, hC⟩ : ∃ C, chs.length = C := ⟨_, rfl⟩
  obtain ⟨cA, cc, rfl⟩ := g4.form
  rw [hC, hdl] at HAFTER
  have HBD : Hid (∀ n, Below w.heap.size w (w.drewN n)) := Lib.hid fun n => by
    have h := Below.refl w.heap.size w
    exact ⟨h.os, h.tape, h.output, h.size, h.block⟩
  have hkI : (k : Int) ≤ (L : Int) := by omega
  obtain ⟨T, hT⟩ : ∃ T, k + dl = T := ⟨_, rfl⟩
  have i1 : (k : Int) + (dl : Int) = (T : Int) := by omega
  obtain ⟨V, hV⟩ : ∃ V, U + k = V := ⟨_, rfl⟩
  have i3 : (U : Int) + (k : Int) = (V : Int) := by omega
  obtain ⟨X, hX⟩ : ∃ X, V + dl = X := ⟨_, rfl⟩
  have i4 : (V : Int) + (dl : Int) = (X : Int) := by omega
  have i7 : (X : Int) ≤ 9223372036854775807 := by omega
  by_cases hTL : L < T
  · obtain ⟨Y, hY⟩ : ∃ Y, X - L = Y := ⟨_, rfl⟩
    have i5 : (X : Int) - (L : Int) = (Y : Int) := by omega
    have i6 : ¬ room < (Y : Int) := by have := hfit (by omega); omega
    have i2 : (L : Int) < (T : Int) := by omega
    clear hn g1 g2 g3 g4 e0 hpv hL htn hU hT hV hX hY hgb hout hE hfit hD hgbe hC hdl
    go_enter Try.func30, Try.ntmps30
    go_wp2_with fail
    refine CR.out.mono ?_
    clear CR
    rintro e W ⟨rfl, hW⟩
    rw [hW]; clear hW
    go_wp2_with fail
    refine CG.out.mono ?_
    clear CG
    rintro e W ⟨rfl, hW⟩
    rw [hW]; clear hW
    go_wp2_with fail
    go_quiet ((go_at_call 36; exact Calls.quiet_of_same (CU.out _ (.inr ⟨_, rfl⟩))))
    go_wp2_with fail
    go_region_with (first
      | (go_at_call 52; ((with_reducible refine (CO.out _ (HBD.out _)).mono ?_); rintro e W1 ⟨A0, c0', rfl, HO⟩; have k2 := HQ.out W1 HO.out.2.1))
      | (go_at_call 51; ((with_reducible refine (CW.out _ _ _ HO.out.2.1 HO.out.1).mono ?_); rintro e W5 ⟨A1, F, c1, rfl, HW⟩; obtain ⟨q5, q6, Ax, cx, W7, HR1, q7, A', c', W8, HR2, q8, HFIN⟩ := HAFTER.out A1 F c1 W5 _ HO.out.2.2 HW.out.2 HW.out.1; obtain ⟨⟨_, _, a2, _, _⟩, af⟩ := q5.cells; have af2 := af 2; obtain ⟨⟨_, _, _, _, b4⟩, _⟩ := q6.cells; obtain ⟨⟨_, _, _, _, d4⟩, _⟩ := q7.cells; obtain ⟨⟨_, _, _, _, f4⟩, ff⟩ := q8.cells; have ff4 := ff 4; have hq5 := q5.lt; have hq7 := q7.lt; clear HAFTER HW HO q5 q6 q7 q8 af ff k2)))
    all_goals
      go_wp2_with fail
      go_region_law (first | (refine step_append_ran rfl _ _ _ rfl rfl rfl HR1.out ?_) | (refine step_append_ran rfl _ _ _ rfl rfl rfl HR2.out ?_))
      all_goals
        go_wp2_with fail
        go_ret
        exact HFIN.out
  · have i2 : ¬ (L : Int) < (T : Int) := by omega
    clear hn g1 g2 g3 g4 e0 hpv hL htn hU hT hV hX hgb hout hE hfit hD hgbe hC hdl
    go_enter Try.func30, Try.ntmps30
    go_wp2_with fail
    refine CR.out.mono ?_
    clear CR
    rintro e W ⟨rfl, hW⟩
    rw [hW]; clear hW
    go_wp2_with fail
    refine CG.out.mono ?_
    clear CG
    rintro e W ⟨rfl, hW⟩
    rw [hW]; clear hW
    go_wp2_with fail
    go_quiet (fail)
    go_wp2_with fail
    go_region_with (first
      | (go_at_call 52; ((with_reducible refine (CO.out _ (HBD.out _)).mono ?_); rintro e W1 ⟨A0, c0', rfl, HO⟩; have k2 := HQ.out W1 HO.out.2.1))
      | (go_at_call 51; ((with_reducible refine (CW.out _ _ _ HO.out.2.1 HO.out.1).mono ?_); rintro e W5 ⟨A1, F, c1, rfl, HW⟩; obtain ⟨q5, q6, Ax, cx, W7, HR1, q7, A', c', W8, HR2, q8, HFIN⟩ := HAFTER.out A1 F c1 W5 _ HO.out.2.2 HW.out.2 HW.out.1; obtain ⟨⟨_, _, a2, _, _⟩, af⟩ := q5.cells; have af2 := af 2; obtain ⟨⟨_, _, _, _, b4⟩, _⟩ := q6.cells; obtain ⟨⟨_, _, _, _, d4⟩, _⟩ := q7.cells; obtain ⟨⟨_, _, _, _, f4⟩, ff⟩ := q8.cells; have ff4 := ff 4; have hq5 := q5.lt; have hq7 := q7.lt; clear HAFTER HW HO q5 q6 q7 q8 af ff k2)))
    all_goals
      go_wp2_with fail
      go_region_law (first | (refine step_append_ran rfl _ _ _ rfl rfl rfl HR1.out ?_) | (refine step_append_ran rfl _ _ _ rfl rfl rfl HR2.out ?_))
      all_goals
        go_wp2_with fail
        go_ret
        exact HFIN.out

end Go.Proofs.Ytmegiilkcidanaa.Disk
