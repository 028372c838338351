/-
  Put together out of texts of one chain: what they hold stands ahead of each.
-/
import Derived.Test.YtnjjjalenhbicaaGDiskStands28
/-
  Contracts of the document's disk's Remove.
-/
namespace Go.Proofs.Ytnjjjalenhbicaa.Disk
open Go Go.RowKit Go.Sort Go.Lib Go.Proofs.Ytnjjjalenhbicaa.Law

theorem RefD.lt {W : World} {base q : Nat} {room : Int} {fails : Bool} {now safe : List RF} {chs : List RC} (h : RefD W base q room fails now safe chs) : q < W.heap.size := by
  obtain ⟨_, _, _, _, h1, _⟩ := h
  exact h1.lt
theorem RefD.keep {W : World} {base q : Nat} {room : Int} {fails : Bool} {now safe : List RF} {chs : List RC} (h : RefD W base q room fails now safe chs) : RefK base q W W := RefK.refl h.1 h.lt
/-- What a call of the document's disk leaves. -/
def RefO (w : World) (base q : Nat) (n : Nat) (room : Int) (fails : Bool) (now safe : List RF) (chs : List RC) (e : Ending) (W : World) : Prop :=
  e = .returned (.int .i64 (n : Nat)) ∧ RefD W base q room fails now safe chs ∧ RefK base q w W

set_option maxRecDepth 100000 in
set_option maxHeartbeats 2000000 in
theorem refRemove_no (n : Nat) (hn0 : n ≠ 0) (w : World) (base q : Nat) (room : Int) (fails : Bool) (now safe : List RF) (chs : List RC) (h : RefD w base q room fails now safe chs) (s : ByteArray) (hs63 : s.size ≤ 9223372036854775807) (hn : refN fails s 0 = n) :
    Calls Try.prog 32 #[.pointer (some ⟨q, 0, none⟩), .string s] w (RefO w base q n room fails now safe chs) := by
  have HF : Hid (RefO w base q n room fails now safe chs (.returned (.int .i64 (n : Nat))) w) := Lib.hid ⟨rfl, h, h.keep⟩
  obtain ⟨hb, nv, sv, cv, h1, h2, h3, h4⟩ := h
  have CR := Lib.hid (refReady_calls q room fails nv sv cv s hs63 0 w h1)
  rw [hn] at CR
  have hnI : ((n : Int) == 0) = false := by rw [beq_eq_false_iff_ne]; omega
  clear hn h1 h2 h3 h4
  go_enter Try.func32, Try.ntmps32
  go_wp2_with fail
  refine CR.out.mono ?_
  clear CR
  rintro e W ⟨rfl, rfl⟩
  go_wp2_with fail
  go_ret
  exact HF.out

set_option maxRecDepth 100000 in
set_option maxHeartbeats 2000000 in
theorem refRemove_none (w : World) (base q : Nat) (room : Int) (fails : Bool) (now safe : List RF) (hnow : now.length ≤ 1000000) (chs : List RC) (h : RefD w base q room fails now safe chs) (s : ByteArray) (hs63 : s.size ≤ 9223372036854775807) (hn : refN fails s 0 = 0) (hg : getF now s = none) :
    Calls Try.prog 32 #[.pointer (some ⟨q, 0, none⟩), .string s] w (RefO w base q 7 room fails now safe chs) := by
  have HF : Hid (RefO w base q 7 room fails now safe chs (.returned (.int .i64 7)) w) := Lib.hid ⟨rfl, h, h.keep⟩
  obtain ⟨hb, nv, sv, cv, h1, h2, h3, h4⟩ := h
  have CR := Lib.hid (refReady_calls q room fails nv sv cv s hs63 0 w h1)
  rw [hn] at CR
  have CG := refGet_calls nv now (by omega) s base w h2
  have e0 : ∀ e W, GetR w now s e W → e = .returned (.tuple #[.slice none 0 0, .bool false]) ∧ W = w := fun e W hr => by
    obtain ⟨rfl, rfl⟩ := hr
    exact ⟨by rw [getV, hg]; rfl, rfl⟩
  have CG := Lib.hid (CG.mono e0)
  obtain ⟨nA, nc, rfl⟩ := h2.form
  obtain ⟨N, hN⟩ : ∃ N, now.length = N := ⟨_, rfl⟩
  obtain ⟨⟨_, _, c2, _⟩, _⟩ := h1.cells
  rw [hN] at c2 CG
  clear hn h1 h2 h3 h4 e0 hN hg
  go_enter Try.func32, Try.ntmps32
  go_wp2_with fail
  refine CR.out.mono ?_
  clear CR
  rintro e W ⟨rfl, rfl⟩
  go_wp2_with fail
  refine CG.out.mono ?_
  clear CG
  rintro e W ⟨rfl, rfl⟩
  go_wp2_with fail
  go_ret
  exact HF.out

set_option maxRecDepth 100000 in
set_option maxHeartbeats 2000000 in
theorem refRemove_ok (w : World) (base q : Nat) (hbase : base ≤ w.heap.size) (room : Int) (fails : Bool) (now safe : List RF) (hnow : now.length ≤ 1000000) (chs : List RC) (hchs : chs.length ≤ 1000000) (h : RefD w base q room fails now safe chs) (s : ByteArray) (hs63 : s.size ≤ 9223372036854775807) (hn : refN fails s 0 = 0) (p : RF) (hg : getF now s = some p) (hp : p ∈ now) :
    Calls Try.prog 32 #[.pointer (some ⟨q, 0, none⟩), .string s] w (RefO w base q 0 room fails (now.filter (neN s)) safe (chs ++ [(⟨2, s, 0, []⟩, .slice none 0 0)])) := by
  obtain ⟨hb, nv, sv, cv, h1, h2, h3, h4⟩ := h
  have CR := Lib.hid (refReady_calls q room fails nv sv cv s hs63 0 w h1)
  rw [hn] at CR
  have CG := refGet_calls nv now (by omega) s base w h2
  obtain ⟨pA, pc, hpv, _⟩ := (h2.2 p hp).form
  have e0 : ∀ e W, GetR w now s e W → e = .returned (.tuple #[.slice pA p.1.2.length pc, .bool true]) ∧ W = w := fun e W hr => by
    obtain ⟨rfl, rfl⟩ := hr
    exact ⟨by rw [getV, hg, ← hpv]; rfl, rfl⟩
  have CG := Lib.hid (CG.mono e0)
  have CW := Lib.hid (refWithout_calls nv now hnow s base w hbase h2)
  obtain ⟨nA, nc, rfl⟩ := h2.form
  obtain ⟨cA, cc, rfl⟩ := h4.form
  have HAFTER : Hid (∀ (A1 : Option Addr) (c1 : Nat) (W : World), FilesN w.heap.size W base (.slice A1 (now.filter (neN s)).length c1) (now.filter (neN s)) → Below w.heap.size w W →
      RD W q room fails (.slice nA now.length nc) sv (.slice cA chs.length cc) ∧ RD (W.setCell ⟨q, 2, none⟩ (.slice A1 (now.filter (neN s)).length c1)) q room fails (.slice A1 (now.filter (neN s)).length c1) sv (.slice cA chs.length cc) ∧
      ∃ A' c' W', Hid ((Builtin.append_ #[30, 30] 30 #[.slice cA chs.length cc, .slice (some ⟨W.heap.size, 0, none⟩) 1 1]).run Try.prog ((W.setCell ⟨q, 2, none⟩ (.slice A1 (now.filter (neN s)).length c1)).alloc (.cells #[.int .i64 2, .string s, .int .i64 0, .slice none 0 0] 97)) = .ok (.slice A' (chs.length + 1) c') W') ∧
        RD W' q room fails (.slice A1 (now.filter (neN s)).length c1) sv (.slice cA chs.length cc) ∧ Hid (RefO w base q 0 room fails (now.filter (neN s)) safe (chs ++ [(⟨2, s, 0, []⟩, .slice none 0 0)]) (.returned (.int .i64 0)) (W'.setCell ⟨q, 4, none⟩ (.slice A' (chs.length + 1) c')))) := Lib.hid fun A1 c1 W hF hB => by
    have q1 := h1.below hB
    have q2 := rd_set2 q1 (.slice A1 (now.filter (neN s)).length c1)
    refine ⟨q1, q2, ?_⟩
    have hW : base ≤ W.heap.size := Nat.le_trans hbase hB.size
    have hF1 := (RefK.of_below hb h1.lt hB).put q1 2 (.slice A1 (now.filter (neN s)).length c1) fun g hg => .inr (hF.2 g hg)
    have g1 := files_set (u := .slice A1 (now.filter (neN s)).length c1) hF.1 q1 2
    have g2 := files_set (u := .slice A1 (now.filter (neN s)).length c1) (h3.below hB) q1 2
    have g3 := chs_set (u := .slice A1 (now.filter (neN s)).length c1) (h4.below hB) q1 2
    obtain ⟨W2, hW2⟩ : ∃ W2, W.setCell ⟨q, 2, none⟩ (.slice A1 (now.filter (neN s)).length c1) = W2 := ⟨_, rfl⟩
    have hsz : W2.heap.size = W.heap.size := by rw [← hW2]; simp [World.setCell]
    rw [hW2] at q2 hF1 g1 g2 g3 ⊢
    have hB2 := (Below.refl W2.heap.size W2).alloc (Nat.le_refl _) (.cells #[.int .i64 2, .string s, .int .i64 0, .slice none 0 0] 97)
    have hW2b : base ≤ W2.heap.size := by rw [hsz]; exact hW
    obtain ⟨A', c', W', hrun, k1, k2, k3⟩ := ref_push hb (q2.below hB2) (g1.below hB2) (g2.below hB2) (g3.below hB2) (Nat.le_trans hW2b hB2.size) 30 W2.heap.size (⟨2, s, 0, []⟩, .slice none 0 0) (by simp only [World.alloc, Array.getElem?_push_size]; rfl) (Buf.nil _ _ _) (by omega) (hF1.then_below hB2)
    refine ⟨A', c', W', Lib.hid (by rw [← hsz]; exact hrun), k1, Lib.hid ⟨rfl, k2, ?_⟩⟩
    exact k3
  obtain ⟨⟨_, _, c2, _⟩, _⟩ := h1.cells
  obtain ⟨N, hN⟩ : ∃ N, now.length = N := ⟨_, rfl⟩
  obtain ⟨C, hC⟩ : ∃ C, chs.length = C := ⟨_, rfl⟩
  obtain ⟨M, hM⟩ : ∃ M, p.1.2.length = M := ⟨_, rfl⟩
  obtain ⟨F, hFF⟩ : ∃ F, (now.filter (neN s)).length = F := ⟨_, rfl⟩
  rw [hN] at c2 CG CW
  rw [hM] at CG
  rw [hN, hC, hFF] at HAFTER
  have e1 : ∀ e W, FilesO w base (now.filter (neN s)) e W → ∃ A c, e = .returned (.slice A F c) ∧ Hid (FilesN w.heap.size W base (.slice A F c) (now.filter (neN s)) ∧ Below w.heap.size w W) := fun e W hr => by
    obtain ⟨A, c, rfl, h1, h2⟩ := hr
    rw [hFF] at h1 ⊢
    exact ⟨A, c, rfl, Lib.hid ⟨h1, h2⟩⟩
  have CW2 := Lib.hid (CW.out.mono e1)
  clear e1
  clear hn h1 h2 h3 h4 e0 hN hg hC hM hFF CW hpv hp
  go_enter Try.func32, Try.ntmps32
  go_wp2_with fail
  refine CR.out.mono ?_
  clear CR
  rintro e W ⟨rfl, rfl⟩
  go_wp2_with fail
  refine CG.out.mono ?_
  clear CG
  rintro e W ⟨rfl, rfl⟩
  go_wp2_with fail
  refine CW2.out.mono ?_
  clear CW2
  rintro e W2 ⟨A1, c1, rfl, HW⟩
  obtain ⟨q1, q2, A', c', W3, HR, q3, HFIN⟩ := HAFTER.out A1 c1 W2 HW.out.1 HW.out.2
  clear HAFTER HW
  obtain ⟨⟨a0, a1, a2, a3, a4⟩, af⟩ := q1.cells
  obtain ⟨⟨b0, b1, b2, b3, b4⟩, bf⟩ := q2.cells
  obtain ⟨⟨d0, d1, d2, d3, d4⟩, df⟩ := q3.cells
  have af2 := af 2
  have df4 := df 4
  clear q1 q2 q3 a0 a1 a3 a4 b0 b1 b2 b3 d0 d1 d2 d3 af bf df c2
  go_wp2_with (at_builtin; refine wpList_append_ran rfl _ _ _ rfl rfl rfl HR.out ?_)
  go_ret
  exact HFIN.out

end Go.Proofs.Ytnjjjalenhbicaa.Disk

/-
  Contracts of the document's disk's Cut.
-/
namespace Go.Proofs.Ytnjjjalenhbicaa.Disk
open Go Go.RowKit Go.Sort Go.Lib Go.Proofs.Ytnjjjalenhbicaa.Law

/-- The front of a buffer, its room kept. -/
theorem buf_front {W : World} {base : Nat} {e : TypeId} {A : Option Addr} {len cap : Nat} {bs : List Nat} (h : Buf W base e (.slice A len cap) bs) (k : Nat) (hk : k ≤ bs.length) : Buf W base e (.slice A k cap) (bs.take k) := by
  have hl : (bs.take k).length = k := by rw [List.length_take]; omega
  refine ⟨fun x hx => h.1 x (List.mem_of_mem_take hx), ?_⟩
  rcases h.2 with ⟨hv, rfl⟩ | ⟨g, cap', cur, hv, hb, hg, hn, hc, hm, ht⟩
  · simp only [Value.slice.injEq] at hv
    obtain ⟨rfl, _, rfl⟩ := hv
    have : k = 0 := by simpa using hk
    subst this
    exact .inl ⟨rfl, rfl⟩
  · simp only [Value.slice.injEq] at hv
    obtain ⟨rfl, rfl, rfl⟩ := hv
    refine .inr ⟨g, cap, cur, by rw [hl], hb, hg, by omega, hc, hm, ?_⟩
    rw [hl]
    have : (cur.toList.take bs.length).take k = cur.toList.take k := by rw [List.take_take]; congr 1; omega
    rw [← this, ht]
    simp [vals, List.map_take]

set_option maxRecDepth 100000 in
set_option maxHeartbeats 2000000 in
theorem refCut_no (n : Nat) (hn0 : n ≠ 0) (w : World) (base q : Nat) (room : Int) (fails : Bool) (now safe : List RF) (chs : List RC) (h : RefD w base q room fails now safe chs) (s : ByteArray) (hs63 : s.size ≤ 9223372036854775807) (k : Int) (hn : refN fails s k = n) :
    Calls Try.prog 31 #[.pointer (some ⟨q, 0, none⟩), .string s, .int .i64 k] w (RefO w base q n room fails now safe chs) := by
  have HF : Hid (RefO w base q n room fails now safe chs (.returned (.int .i64 (n : Nat))) w) := Lib.hid ⟨rfl, h, h.keep⟩
  obtain ⟨hb, nv, sv, cv, h1, h2, h3, h4⟩ := h
  have CR := Lib.hid (refReady_calls q room fails nv sv cv s hs63 k w h1)
  rw [hn] at CR
  have hnI : ((n : Int) == 0) = false := by rw [beq_eq_false_iff_ne]; omega
  clear hn h1 h2 h3 h4
  go_enter Try.func31, Try.ntmps31
  go_wp2_with fail
  refine CR.out.mono ?_
  clear CR
  rintro e W ⟨rfl, rfl⟩
  go_wp2_with fail
  go_ret
  exact HF.out

set_option maxRecDepth 100000 in
set_option maxHeartbeats 2000000 in
theorem refCut_none (w : World) (base q : Nat) (room : Int) (fails : Bool) (now safe : List RF) (hnow : now.length ≤ 1000000) (chs : List RC) (h : RefD w base q room fails now safe chs) (s : ByteArray) (hs63 : s.size ≤ 9223372036854775807) (k : Int) (hn : refN fails s k = 0) (hg : getF now s = none) :
    Calls Try.prog 31 #[.pointer (some ⟨q, 0, none⟩), .string s, .int .i64 k] w (RefO w base q 7 room fails now safe chs) := by
  have HF : Hid (RefO w base q 7 room fails now safe chs (.returned (.int .i64 7)) w) := Lib.hid ⟨rfl, h, h.keep⟩
  obtain ⟨hb, nv, sv, cv, h1, h2, h3, h4⟩ := h
  have CR := Lib.hid (refReady_calls q room fails nv sv cv s hs63 k w h1)
  rw [hn] at CR
  have CG := refGet_calls nv now (by omega) s base w h2
  have e0 : ∀ e W, GetR w now s e W → e = .returned (.tuple #[.slice none 0 0, .bool false]) ∧ W = w := fun e W hr => by
    obtain ⟨rfl, rfl⟩ := hr
    exact ⟨by rw [getV, hg]; rfl, rfl⟩
  have CG := Lib.hid (CG.mono e0)
  obtain ⟨nA, nc, rfl⟩ := h2.form
  obtain ⟨N, hN⟩ : ∃ N, now.length = N := ⟨_, rfl⟩
  obtain ⟨⟨_, _, c2, _⟩, _⟩ := h1.cells
  rw [hN] at c2 CG
  clear hn h1 h2 h3 h4 e0 hN hg
  go_enter Try.func31, Try.ntmps31
  go_wp2_with fail
  refine CR.out.mono ?_
  clear CR
  rintro e W ⟨rfl, rfl⟩
  go_wp2_with fail
  refine CG.out.mono ?_
  clear CG
  rintro e W ⟨rfl, rfl⟩
  go_wp2_with fail
  go_ret
  exact HF.out

set_option maxRecDepth 100000 in
set_option maxHeartbeats 2000000 in
theorem refCut_range (w : World) (base q : Nat) (room : Int) (fails : Bool) (now safe : List RF) (hnow : now.length ≤ 1000000) (chs : List RC) (h : RefD w base q room fails now safe chs) (s : ByteArray) (hs63 : s.size ≤ 9223372036854775807) (k : Nat) (hn : refN fails s (k : Nat) = 0) (p : RF) (hg : getF now s = some p) (hp : p ∈ now) (hk : p.1.2.length < k) :
    Calls Try.prog 31 #[.pointer (some ⟨q, 0, none⟩), .string s, .int .i64 (k : Nat)] w (RefO w base q 8 room fails now safe chs) := by
  have HF : Hid (RefO w base q 8 room fails now safe chs (.returned (.int .i64 8)) w) := Lib.hid ⟨rfl, h, h.keep⟩
  obtain ⟨hb, nv, sv, cv, h1, h2, h3, h4⟩ := h
  have CR := Lib.hid (refReady_calls q room fails nv sv cv s hs63 (k : Nat) w h1)
  rw [hn] at CR
  have CG := refGet_calls nv now (by omega) s base w h2
  obtain ⟨pA, pc, hpv, _⟩ := (h2.2 p hp).form
  have e0 : ∀ e W, GetR w now s e W → e = .returned (.tuple #[.slice pA p.1.2.length pc, .bool true]) ∧ W = w := fun e W hr => by
    obtain ⟨rfl, rfl⟩ := hr
    exact ⟨by rw [getV, hg, ← hpv]; rfl, rfl⟩
  have CG := Lib.hid (CG.mono e0)
  obtain ⟨nA, nc, rfl⟩ := h2.form
  obtain ⟨⟨_, _, c2, _⟩, _⟩ := h1.cells
  obtain ⟨N, hN⟩ : ∃ N, now.length = N := ⟨_, rfl⟩
  obtain ⟨M, hM⟩ : ∃ M, p.1.2.length = M := ⟨_, rfl⟩
  rw [hN] at c2 CG
  rw [hM] at CG hk
  have hkI : (M : Int) < (k : Int) := by omega
  clear hn h1 h2 h3 h4 e0 hN hg hM hpv hp
  go_enter Try.func31, Try.ntmps31
  go_wp2_with fail
  refine CR.out.mono ?_
  clear CR
  rintro e W ⟨rfl, rfl⟩
  go_wp2_with fail
  refine CG.out.mono ?_
  clear CG
  rintro e W ⟨rfl, rfl⟩
  go_wp2_with fail
  go_ret
  exact HF.out

set_option maxRecDepth 100000 in
set_option maxHeartbeats 2000000 in
theorem refCut_ok (w : World) (base q : Nat) (hbase : base ≤ w.heap.size) (room : Int) (fails : Bool) (now safe : List RF) (hnow : now.length ≤ 1000000) (chs : List RC) (hchs : chs.length ≤ 1000000) (h : RefD w base q room fails now safe chs) (s : ByteArray) (hs63 : s.size ≤ 9223372036854775807) (k : Nat) (hn : refN fails s (k : Nat) = 0) (p : RF) (hg : getF now s = some p) (hp : p ∈ now) (hk : k ≤ p.1.2.length) (pA : Option Addr) (pc : Nat) (hpv : p.2 = .slice pA p.1.2.length pc) :
    Calls Try.prog 31 #[.pointer (some ⟨q, 0, none⟩), .string s, .int .i64 (k : Nat)] w (RefO w base q 0 room fails (withF s ((s, p.1.2.take k), .slice pA k pc) now) safe (chs ++ [(⟨1, s, k, []⟩, .slice none 0 0)])) := by
  obtain ⟨hb, nv, sv, cv, h1, h2, h3, h4⟩ := h
  have CR := Lib.hid (refReady_calls q room fails nv sv cv s hs63 (k : Nat) w h1)
  rw [hn] at CR
  have CG := refGet_calls nv now (by omega) s base w h2
  have hpb := h2.2 p hp
  rw [hpv] at hpb
  have hcapB : p.1.2.length ≤ pc := by
    obtain ⟨A0, c0, he, hle⟩ := hpb.form
    simp only [Value.slice.injEq] at he
    omega
  have hfr := buf_front hpb k hk
  have e0 : ∀ e W, GetR w now s e W → e = .returned (.tuple #[.slice pA p.1.2.length pc, .bool true]) ∧ W = w := fun e W hr => by
    obtain ⟨rfl, rfl⟩ := hr
    exact ⟨by rw [getV, hg, ← hpv]; rfl, rfl⟩
  have CG := Lib.hid (CG.mono e0)
  have CW : Hid (∀ W0, Below w.heap.size w W0 → Calls Try.prog 51 #[nv, .string s, .slice pA k pc] W0 (FilesO W0 base (withF s ((s, p.1.2.take k), .slice pA k pc) now))) := Lib.hid fun W0 h0 =>
    refWith_calls nv (.slice pA k pc) now hnow s (p.1.2.take k) base W0 (Nat.le_trans hbase h0.size) (h2.below h0) (hfr.below h0)
  obtain ⟨nA, nc, rfl⟩ := h2.form
  obtain ⟨cA, cc, rfl⟩ := h4.form
  have HAFTER : Hid (∀ (A1 : Option Addr) (c1 : Nat) (W : World), FilesN w.heap.size W base (.slice A1 (withF s ((s, p.1.2.take k), .slice pA k pc) now).length c1) (withF s ((s, p.1.2.take k), .slice pA k pc) now) → Below w.heap.size w W →
      RD W q room fails (.slice nA now.length nc) sv (.slice cA chs.length cc) ∧ RD (W.setCell ⟨q, 2, none⟩ (.slice A1 (withF s ((s, p.1.2.take k), .slice pA k pc) now).length c1)) q room fails (.slice A1 (withF s ((s, p.1.2.take k), .slice pA k pc) now).length c1) sv (.slice cA chs.length cc) ∧
      ∃ A' c' W', Hid ((Builtin.append_ #[30, 30] 30 #[.slice cA chs.length cc, .slice (some ⟨W.heap.size, 0, none⟩) 1 1]).run Try.prog ((W.setCell ⟨q, 2, none⟩ (.slice A1 (withF s ((s, p.1.2.take k), .slice pA k pc) now).length c1)).alloc (.cells #[.int .i64 1, .string s, .int .i64 (k : Nat), .slice none 0 0] 97)) = .ok (.slice A' (chs.length + 1) c') W') ∧
        RD W' q room fails (.slice A1 (withF s ((s, p.1.2.take k), .slice pA k pc) now).length c1) sv (.slice cA chs.length cc) ∧ Hid (RefO w base q 0 room fails (withF s ((s, p.1.2.take k), .slice pA k pc) now) safe (chs ++ [(⟨1, s, k, []⟩, .slice none 0 0)]) (.returned (.int .i64 0)) (W'.setCell ⟨q, 4, none⟩ (.slice A' (chs.length + 1) c')))) := Lib.hid fun A1 c1 W hF hB => by
    have q1 := h1.below hB
    have q2 := rd_set2 q1 (.slice A1 (withF s ((s, p.1.2.take k), .slice pA k pc) now).length c1)
    refine ⟨q1, q2, ?_⟩
    have hW : base ≤ W.heap.size := Nat.le_trans hbase hB.size
    have hF1 := (RefK.of_below hb h1.lt hB).put q1 2 (.slice A1 (withF s ((s, p.1.2.take k), .slice pA k pc) now).length c1) fun g hg => .inr (hF.2 g hg)
    have g1 := files_set (u := .slice A1 (withF s ((s, p.1.2.take k), .slice pA k pc) now).length c1) hF.1 q1 2
    have g2 := files_set (u := .slice A1 (withF s ((s, p.1.2.take k), .slice pA k pc) now).length c1) (h3.below hB) q1 2
    have g3 := chs_set (u := .slice A1 (withF s ((s, p.1.2.take k), .slice pA k pc) now).length c1) (h4.below hB) q1 2
    obtain ⟨W2, hW2⟩ : ∃ W2, W.setCell ⟨q, 2, none⟩ (.slice A1 (withF s ((s, p.1.2.take k), .slice pA k pc) now).length c1) = W2 := ⟨_, rfl⟩
    have hsz : W2.heap.size = W.heap.size := by rw [← hW2]; simp [World.setCell]
    rw [hW2] at q2 hF1 g1 g2 g3 ⊢
    have hB2 := (Below.refl W2.heap.size W2).alloc (Nat.le_refl _) (.cells #[.int .i64 1, .string s, .int .i64 (k : Nat), .slice none 0 0] 97)
    have hW2b : base ≤ W2.heap.size := by rw [hsz]; exact hW
    obtain ⟨A', c', W', hrun, k1, k2, k3⟩ := ref_push hb (q2.below hB2) (g1.below hB2) (g2.below hB2) (g3.below hB2) (Nat.le_trans hW2b hB2.size) 30 W2.heap.size (⟨1, s, k, []⟩, .slice none 0 0) (by simp only [World.alloc, Array.getElem?_push_size]; rfl) (Buf.nil _ _ _) (by omega) (hF1.then_below hB2)
    refine ⟨A', c', W', Lib.hid (by rw [← hsz]; exact hrun), k1, Lib.hid ⟨rfl, k2, ?_⟩⟩
    exact k3
  obtain ⟨⟨_, _, c2, _⟩, _⟩ := h1.cells
  obtain ⟨N, hN⟩ : ∃ N, now.length = N := ⟨_, rfl⟩
  obtain ⟨C, hC⟩ : ∃ C, chs.length = C := ⟨_, rfl⟩
  obtain ⟨M, hM⟩ : ∃ M, p.1.2.length = M := ⟨_, rfl⟩
  obtain ⟨F, hFF⟩ : ∃ F, (withF s ((s, p.1.2.take k), .slice pA k pc) now).length = F := ⟨_, rfl⟩
  rw [hN] at c2 CG CW
  rw [hM] at CG hk hcapB
  have hkI : (k : Int) ≤ (M : Int) := by omega
  have hcI : (M : Int) ≤ (pc : Int) := by omega
  rw [hN, hC, hFF] at HAFTER
  have e1 : ∀ W0, Below w.heap.size w W0 → ∀ e W, FilesO W0 base (withF s ((s, p.1.2.take k), .slice pA k pc) now) e W → ∃ A c, e = .returned (.slice A F c) ∧ Hid (FilesN w.heap.size W base (.slice A F c) (withF s ((s, p.1.2.take k), .slice pA k pc) now) ∧ Below w.heap.size w W) := fun W0 h0 e W hr => by
    obtain ⟨A, c, rfl, h1, h2⟩ := hr
    rw [hFF] at h1 ⊢
    exact ⟨A, c, rfl, Lib.hid ⟨h1.old h0.size, h0.trans (h2.mono h0.size)⟩⟩
  have CW2 := Lib.hid (fun W0 (h0 : Below w.heap.size w W0) => (CW.out W0 h0).mono (e1 W0 h0))
  clear e1
  have HBD : Hid (Below w.heap.size w w.drew) := Lib.hid (Below.refl _ _).drew
  clear hn h1 h2 h3 h4 e0 hN hg hC hM hFF CW hpv hp hpb hfr
  go_enter Try.func31, Try.ntmps31
  go_wp2_with fail
  refine CR.out.mono ?_
  clear CR
  rintro e W ⟨rfl, rfl⟩
  go_wp2_with fail
  refine CG.out.mono ?_
  clear CG
  rintro e W ⟨rfl, rfl⟩
  go_wp2_with fail
  have hkc : (k : Int) ≤ (pc : Int) := by omega
  go_region_with (go_at_call 51; ((with_reducible refine (CW2.out _ HBD.out).mono ?_); rintro e W2 ⟨A1, c1, rfl, HW⟩; obtain ⟨q1, q2, A', c', W3, HR, q3, HFIN⟩ := HAFTER.out A1 c1 W2 HW.out.1 HW.out.2; clear HAFTER HW; obtain ⟨⟨a0, a1, a2, a3, a4⟩, af⟩ := q1.cells; obtain ⟨⟨b0, b1, b2, b3, b4⟩, bf⟩ := q2.cells; obtain ⟨⟨d0, d1, d2, d3, d4⟩, df⟩ := q3.cells; have af2 := af 2; have df4 := df 4; clear q1 q2 q3 a0 a1 a3 a4 b0 b1 b2 b3 d0 d1 d2 d3 af bf df c2))
  all_goals
    go_wp2_with (at_builtin; refine wpList_append_ran rfl _ _ _ rfl rfl rfl HR.out ?_)
    go_ret
    exact HFIN.out

end Go.Proofs.Ytnjjjalenhbicaa.Disk
