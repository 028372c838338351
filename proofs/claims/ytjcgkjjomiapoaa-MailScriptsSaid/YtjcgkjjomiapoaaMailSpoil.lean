/-
  Contracts of mail's Spoil.
-/
import Derived.Test.YtjcgkjjomiapoaaMailKnown
import Derived.Laws.BitsAllLaws
import Derived.Test.YtjcgkjjomiapoaaMarkRow
import Derived.Deep.DeepCutAuto
namespace Go.Proofs.Ytjcgkjjomiapoaa.Mail
open Go Go.RowKit Go.Proofs.Ytjcgkjjomiapoaa.Law Go.Proofs.Ytjcgkjjomiapoaa.Mark

theorem flatM_set : ∀ {l : List Msg} {i : Nat} {m : Msg} (s : ByteArray), l[i]? = some m → flatM (l.set i ⟨m.src, m.dst, s⟩) = (flatM l).set (i * 3 + 2) (.string s)
  | [], i, m, s, h => by simp at h
  | q :: r, 0, m, s, h => by
    simp only [List.getElem?_cons_zero, Option.some.injEq] at h
    subst h
    rfl
  | q :: r, i + 1, m, s, h => by
    have ih := flatM_set (l := r) (i := i) (m := m) s (by simpa using h)
    rw [show (i + 1) * 3 + 2 = (i * 3 + 2) + 3 by omega]
    simp only [List.set_cons_succ, flatM, ih]

/-- A message's data is written over where it lies. -/
theorem post_set {W : World} {base p : Nat} {nodes : Int} {ms : List Msg} {n cap g o : Nat} (hb : base ≤ p) (hn : ms.length = n) (h : PB W p nodes (.slice (some ⟨g, o, none⟩) n cap)) (hO : Seg W base 68 3 (.slice (some ⟨g, o, none⟩) n cap) n (flatM ms)) (hbase : base ≤ W.heap.size) {i : Nat} {m : Msg} (hm : ms[i]? = some m) (s : ByteArray) :
    Post (W.setCell ⟨g, o + i * 3 + 2, none⟩ (.string s)) base p nodes (ms.set i ⟨m.src, m.dst, s⟩) ∧ Frm isPost base W (W.setCell ⟨g, o + i * 3 + 2, none⟩ (.string s)) := by
  subst hn
  have hil : i < ms.length := (List.getElem?_eq_some_iff.1 hm).1
  obtain ⟨g', o', cur, he, hbg, hg, hnc, hcm, hfit, ht⟩ := hO.at (by omega)
  simp only [Option.some.injEq, Addr.mk.injEq, and_true] at he
  obtain ⟨rfl, rfl⟩ := he
  have hne : g ≠ p := fun e => h.ne hO (by rw [e]; rfl)
  have hg' := heap_set hg (o + i * 3 + 2) (.string s)
  refine ⟨⟨hb, _, (Below.heap_setCell _ _ _ p (fun e => hne e.symm)).trans h, ?_⟩, ((Frm.refl isPost base W).set hg (by decide) hbg hbase _)⟩
  rw [List.length_set]
  refine hO.wrote hg hg' (by simp) (by rw [flatM_length, List.length_set]) hnc ?_
  rw [flatM_set s hm, ← ht, Array.toList_setIfInBounds, show o + i * 3 + 2 = o + (i * 3 + 2) by omega, List.drop_set, if_neg (by omega), show o + (i * 3 + 2) - o = i * 3 + 2 by omega, List.take_set]

theorem Given.ownM {W : World} {base : Nat} {v : Value} {bs : List Nat} (h : Given W base v bs) : OwnM W base 5 v bs := by
  obtain ⟨h0, g, cap, cur, hv, hb, hg, h1, h2, h3, h4⟩ := h
  exact ⟨⟨vals_length bs, .inr ⟨g, cap, cur, _, hv, hb, hg, .inr (Nat.le_refl _), h1, h2, h3, h4⟩⟩, h0⟩

def Spoilt (w : World) (base p : Nat) (nodes : Int) (ms : List Msg) (e : Ending) (W : World) : Prop := e = .returned (.int .i64 0) ∧ Post W base p nodes ms ∧ Frm isPost base w W

set_option maxRecDepth 100000 in
theorem spoil_none (base p : Nat) (nodes : Int) (ms : List Msg) (w : World) (h : Post w base p nodes ms) (i k : Int) (b : Nat) (hi : i < 0 ∨ (ms.length : Nat) ≤ i) :
    Calls Try.prog 16 #[.pointer (some ⟨p, 0, none⟩), .int .i64 i, .int .i64 k, .int .u8 (b : Nat)] w fun e W => e = .returned (.int .i64 7) ∧ w = W := by
  have CR := Lib.hid (refusal_none base p nodes ms i w h hi)
  clear h hi
  go_enter Try.func16, Try.ntmps16
  go_wp2_with fail
  refine CR.out.mono ?_
  rintro e W ⟨rfl, rfl⟩
  go_wp2_with fail
  go_ret
  exact ⟨rfl, rfl⟩

set_option maxRecDepth 100000 in
set_option maxHeartbeats 2000000 in
theorem spoil_range (base p : Nat) (nodes : Int) (ms : List Msg) (w : World) (h : Post w base p nodes ms) (i : Nat) (m : Msg) (hm : ms[i]? = some m) (hsz : m.s.size ≤ 65536) (k : Int) (b : Nat) (hk : k < 0 ∨ (m.s.size : Int) ≤ k) :
    Calls Try.prog 16 #[.pointer (some ⟨p, 0, none⟩), .int .i64 (i : Nat), .int .i64 k, .int .u8 (b : Nat)] w fun e W => e = .returned (.int .i64 8) ∧ w = W := by
  have hil : i < ms.length := (List.getElem?_eq_some_iff.1 hm).1
  have CR := Lib.hid (refusal_no base p nodes ms (i : Nat) w h (by omega) (by omega))
  obtain ⟨hbp, rv, h1, hO⟩ := h
  obtain ⟨R, rc, rfl, _⟩ := hO.form
  obtain ⟨n, hn⟩ : ∃ n, ms.length = n := ⟨_, rfl⟩
  rw [hn] at h1 hO hil
  obtain ⟨g, o, cur, rfl, hbg, hg, hnc, hcm, hfit, _⟩ := hO.at (by omega)
  obtain ⟨e0, e1, e2⟩ := seg_msg hO hm
  obtain ⟨c0, c1, c2⟩ := h1.cells
  obtain ⟨S, D, T⟩ := m
  simp only at e0 e1 e2 hsz hk
  have hp := h1.lt
  have hglt : g < w.heap.size := lt_of_at hg
  clear h1 hO hn hg hm c2
  rcases (show k < 0 ∨ (0 ≤ k ∧ (T.size : Int) ≤ k) by omega) with hk | ⟨hk, hk2⟩
  all_goals
    go_enter Try.func16, Try.ntmps16
    go_wp2_with fail
    refine CR.out.mono ?_
    rintro e W ⟨rfl, rfl⟩
    go_wp2_with fail
    go_ret
    exact ⟨rfl, rfl⟩

set_option maxRecDepth 100000 in
set_option maxHeartbeats 4000000 in
theorem spoil_calls (base p : Nat) (nodes : Int) (ms : List Msg) (w : World) (h : Post w base p nodes ms) (hbase : base ≤ w.heap.size) (i : Nat) (m : Msg) (hm : ms[i]? = some m) (hsz : m.s.size ≤ 65536) (k : Nat) (hk : k < m.s.size) (b : Nat) (hb : b < 256) :
    Calls Try.prog 16 #[.pointer (some ⟨p, 0, none⟩), .int .i64 (i : Nat), .int .i64 (k : Nat), .int .u8 (b : Nat)] w (Spoilt w base p nodes (ms.set i ⟨m.src, m.dst, str ((bytesOf m.s).set k ((bytesOf m.s).getD k 0 ^^^ b))⟩)) := by
  have hil : i < ms.length := (List.getElem?_eq_some_iff.1 hm).1
  have CR := Lib.hid (refusal_no base p nodes ms (i : Nat) w h (by omega) (by omega))
  obtain ⟨hbp, rv, h1, hO⟩ := h
  obtain ⟨R, rc, rfl, _⟩ := hO.form
  obtain ⟨n, hn⟩ : ∃ n, ms.length = n := ⟨_, rfl⟩
  rw [hn] at h1 hO hil
  obtain ⟨g, o, cur, rfl, hbg, hg, hnc, hcm, hfit, _⟩ := hO.at (by omega)
  obtain ⟨e0, e1, e2⟩ := seg_msg hO hm
  obtain ⟨c0, c1, c2⟩ := h1.cells
  have hp := h1.lt
  have hglt : g < w.heap.size := lt_of_at hg
  obtain ⟨S, D, T⟩ := m
  simp only at e0 e1 e2 hsz hk
  have hcv := Lib.run_convert_string_bytes (P := Try.prog) w 9 32 5 T Try.underlying9 Try.underlying32 Try.underlying5
  have hG := given_new w T (by simp only [maxLen]; omega)
  have hb1 := bytesWorld_below w 5 T
  obtain ⟨cap, hcap⟩ : ∃ cap, grownCap w T.size 0 5 = cap := ⟨_, rfl⟩
  obtain ⟨W1, hW1⟩ : ∃ W1, Lib.bytesWorld w 5 T = W1 := ⟨_, rfl⟩
  rw [hcap, hW1] at hcv hG
  rw [hW1] at hb1
  have hM := hG.ownM
  have hlT : (bytesOf T).length = T.size := bytesOf_length T
  obtain ⟨hc, hf⟩ := hM.cell hlT k hk
  obtain ⟨x, hx⟩ : ∃ x, (bytesOf T).getD k 0 = x := ⟨_, rfl⟩
  have hx256 : x < 256 := by rw [← hx]; exact getD_lt (bytesOf_lt T) k
  have hxb : x ^^^ b < 256 := Nat.xor_lt_two_pow (n := 8) hx256 hb
  rw [hx] at hc
  obtain ⟨W2, hW2⟩ : ∃ W2, W1.setCell ⟨w.heap.size, k, none⟩ (.int .u8 ((x ^^^ b : Nat) : Int)) = W2 := ⟨_, rfl⟩
  have hM2 := hM.store hlT k (x ^^^ b) hxb
  rw [hW2] at hM2
  have hcv2 := run_string_bytes (P := Try.prog) W2 Try.underlying32 Try.underlying5 Try.underlying9 hM2.bytes
  have hb2 : Below w.heap.size w W2 := by rw [← hW2]; exact hb1.setCell (p := ⟨w.heap.size, k, none⟩) (Nat.le_refl _) _
  have hl2 : ((bytesOf T).set k (x ^^^ b)).length = T.size := by rw [List.length_set]; exact hlT
  obtain ⟨T', hT'⟩ : ∃ T', str ((bytesOf T).set k (x ^^^ b)) = T' := ⟨_, rfl⟩
  rw [hT'] at hcv2
  have hfin := post_set hbp hn ((hb2.block p hp).trans h1) (hO.below hb2) (Nat.le_trans hbase hb2.size) hm T'
  have e2' := (hb2.cell (p := ⟨g, o + i * 3 + 2, none⟩) hglt).trans e2
  have hg2 : W2.heap[g]? = some (.cells cur 68 (0, 0)) := (hb2.block g hglt).trans hg
  have ef2 : W2.frozen? ⟨g, o + i * 3 + 2, none⟩ = false := by simp [World.frozen?, hg2]
  have hxor := u8_xor_nat x b hx256 hb
  have HCV := Lib.hid hcv
  have HFIN : Hid (Spoilt w base p nodes (ms.set i ⟨S, D, T'⟩) (.returned (.int .i64 0)) (W2.setCell ⟨g, o + i * 3 + 2, none⟩ (.string T'))) := ⟨rfl, hfin.1, ((Frm.refl isPost base w).then_below hb2 hbase).trans hfin.2⟩
  have HW2 := Lib.hid hW2
  have hkI : (k : Int) < (T.size : Int) := by omega
  rw [hx, hT']
  clear hcv hG hb1 hW1 hcap hM hM2 hlT hx hb2 hl2 hT' hfin h1 hO hn hg hm hg2 hW2 c2
  go_enter Try.func16, Try.ntmps16
  go_wp2_with fail
  refine CR.out.mono ?_
  rintro e W ⟨rfl, rfl⟩
  go_upto_region 9 with (refine wpList_exec_ran (o := ⟨some 39, _, _, _, _, _⟩) rfl (run_conv (HCV.out)) ?_)
  rw [HW2.out]
  go_wp2_with fail
  go_ret
  exact HFIN.out

end Go.Proofs.Ytjcgkjjomiapoaa.Mail
