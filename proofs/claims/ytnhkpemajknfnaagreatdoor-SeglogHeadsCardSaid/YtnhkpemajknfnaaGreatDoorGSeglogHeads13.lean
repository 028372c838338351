/-
  Put together out of texts of one chain: what they hold stands ahead of each.
-/
import Derived.Test.YtnhkpemajknfnaaGreatDoorGSeglogHeads12
import Derived.Test.YtnhkpemajknfnaaGreatDoorGSeglogHeads09
import Derived.Test.YtnhkpemajknfnaaGreatDoorHeldTail
import Derived.Deep.RegionHeld3
import Derived.LoopTactic
/-
  Contract of the log's growing where the last segment is full.
-/
namespace Go.Proofs.YtnhkpemajknfnaaGreatDoor.Seglog
open Go Go.RowKit Go.Lib Go.Sort Go.Proofs.YtnhkpemajknfnaaGreatDoor.Law Go.Proofs.YtnhkpemajknfnaaGreatDoor.Disk

set_option maxRecDepth 100000 in
set_option maxHeartbeats 4000000 in
theorem growing_next {Fr : Nat → Prop} {w : World} {D : DS} {base lb db room : Nat} {p : ByteArray} {bk : Bool} {W : World} {v : Value} {l : List SV} (hg0 : Lg Fr w base lb db D p room bk v l W) (hp : p.size ≤ 13) (hbx : ∀ q ∈ l, q.1.base ≤ 4611686018427387904) (htab : Tab10 w) (hl : l.length ≤ 4294967296) (k : Nat) (x : SV) (hk : l.length = k + 1) (hx : l[k]? = some x)
    (hn : x.1.next ≤ 9223372036854775807) (hm : x.1.es.length ≤ 4294967296) (_hr : room ≤ 1048576) (hroom : room ≤ x.1.size) (hnx : x.1.next ≤ 4611686018427387904) :
    Calls Tryz.prog 43 #[.pointer (some ⟨lb, 0, none⟩)] W fun e W' => e = .returned (.tuple #[.int .i64 ((k + 1 : Nat) : Int), segV x.1.next none 0 0, .int .i64 (D.syncN (fileN p x.1.base) : Nat)]) ∧ Dx Fr w db (D.sync (fileN p x.1.base)) W' ∧ SameOn Fr W W' := by
  have h := hg0.2
  obtain ⟨⟨_, _, c2, c3, _⟩, _⟩ := h.block.cells
  have hlb := h.block.lt
  obtain ⟨vA, cap, rfl⟩ := rowForm h.segs.1
  have hkl : k < l.length := by omega
  obtain ⟨hnc, g, o, rfl, hg, q0, q1⟩ := h.segs.cell (i := k) rfl hkl
  have hxi : l[k] = x := (List.getElem?_eq_some_iff.1 hx).2
  rw [hxi] at q0 q1
  have hes := h.segs.2 x (List.mem_of_getElem? hx)
  obtain ⟨A, c, hv⟩ := rowForm hes
  rw [hv] at q1 hes
  rw [hk] at c3 hnc
  obtain ⟨B, hB⟩ : ∃ B, x.1.base = B := ⟨_, rfl⟩
  obtain ⟨m, hm'⟩ : ∃ m, x.1.es.length = m := ⟨_, rfl⟩
  obtain ⟨S, hS⟩ : ∃ S, x.1.size = S := ⟨_, rfl⟩
  obtain ⟨X, hX⟩ : ∃ X, x.1.next = X := ⟨_, rfl⟩
  have hXe : B + m = X := by rw [← hX, ← hB, ← hm']; rfl
  have CZ : Hid (∀ W0, Below W.heap.size W W0 → Calls Tryz.prog 45 #[segV B A m c] W0 fun e W' => e = .returned (.int .i64 (S : Nat)) ∧ Below W0.heap.size W0 W') := Lib.hid fun W0 h0 => by
    have h1 := size_calls x.1.base A m c base x.1.es W0 hm' (by rw [← hm']; exact hes.below h0) (by omega)
    rw [show (⟨x.1.base, x.1.es⟩ : Sg).size = S from hS, hB] at h1
    exact h1
  have CN : Hid (∀ W0, Calls Tryz.prog 38 #[segV B A m c] W0 fun e W' => e = .returned (.int .i64 (X : Nat)) ∧ Below W0.heap.size W0 W') := Lib.hid fun W0 => by
    have h1 := next_calls B A m c (by omega) W0
    rwa [hXe] at h1
  have CY : Hid (∀ (q : Nat) (W0 : World), Below W.heap.size W W0 → W.heap.size ≤ q → q < W0.heap.size → Calls Tryz.prog 70 #[.pointer (some ⟨lb, 0, none⟩), segV B A m c] W0 fun e W' => e = .returned (.int .i64 (D.syncN (fileN p B) : Nat)) ∧ Hid (Dx (fun k => Fr k ∨ (W.heap.size ≤ k ∧ k < W0.heap.size)) w db (D.sync (fileN p B)) W' ∧ SameOn Fr W W') ∧ W'.heap[q]? = W0.heap[q]? ∧ q < W'.heap.size) := Lib.hid fun q W0 h0 h1 h2 => by
    refine (syncS_calls (n := m) (c := c) (A := A) (hg0.1.add h0) (hg0.2.block.below h0) (.inl hg0.2.rl) hp (by rw [← hB]; exact hbx x (List.mem_of_getElem? hx)) htab).mono ?_
    rintro e W' ⟨rfl, h3, h4⟩
    exact ⟨rfl, Lib.hid ⟨h3, SameOn.trans (hg0.1.sameOn h0) (SameOn.less h4 (fun k hk => .inl hk))⟩, h4.1 q (.inr ⟨h1, h2⟩), Nat.lt_of_lt_of_le h2 h4.2⟩
  have FIN : Hid (∀ (q : Nat) (W2 W3 : World) (DF : DS) (u u' : Value), Dx (fun k => Fr k ∨ (W.heap.size ≤ k ∧ k < W2.heap.size)) w db DF W3 ∧ SameOn Fr W W3 → W.heap.size ≤ q → q < W2.heap.size → Dx Fr w db DF ((W3.setCell ⟨q, 0, none⟩ u).setCell ⟨q, 1, none⟩ u') ∧ SameOn Fr W ((W3.setCell ⟨q, 0, none⟩ u).setCell ⟨q, 1, none⟩ u')) := Lib.hid fun q W2 W3 DF u u' h1 h2 h3 => by
    have hne : ∀ k, Fr k → k ≠ q := fun k hk e => by have := (Dx.in hg0.1 hk).2; omega
    exact ⟨Dx.less (Dx.setIn (Dx.setIn h1.1 (.inr ⟨h2, h3⟩) _) (.inr ⟨h2, h3⟩) _) (fun k hk => .inl hk), fun k hk => (Below.heap_setCell _ _ _ k (hne k hk)).trans ((Below.heap_setCell _ _ _ k (hne k hk)).trans (h1.2.1 k hk)), by simpa [World.setCell] using h1.2.2⟩
  have w1 : IntKind.i64.wrap (((k + 1 : Nat) : Int) - 1) = (k : Int) := by rw [IntWalk.i64_in _ (by omega)]; omega
  obtain ⟨k1, hk1⟩ : ∃ j, k + 1 = j := ⟨_, rfl⟩
  rw [hk1] at c3 hnc w1
  have hkI : (k : Int) < (k1 : Int) := by omega
  have hk0 : 0 ≤ (k : Int) := by omega
  have hne : ¬ (k1 : Int) = 0 := by omega
  have hncI : (k1 : Int) ≤ (cap : Int) := by omega
  rw [hB, hX]
  rw [hS] at hroom
  rw [hX] at hnx
  obtain ⟨DF, hDF⟩ : ∃ x, D.sync (fileN p B) = x := ⟨_, rfl⟩
  obtain ⟨NF, hNF⟩ : ∃ x, D.syncN (fileN p B) = x := ⟨_, rfl⟩
  rw [hDF, hNF] at CY ⊢
  have K1 : k + 1 = k1 := hk1
  rw [hk1]
  rw [hB] at q0
  rw [hm'] at q1
  have HB0 := Lib.hid (((Below.refl W.heap.size W).alloc (Nat.le_refl _) (.cells #[.int .i64 0, .slice none 0 0] 84)).alloc (by simp) (.cells #[.int .i64 (B : Nat), .slice A m c] 84))
  obtain ⟨q, hq⟩ : ∃ q, W.heap.size = q := ⟨_, rfl⟩
  have HX0 : Hid (((W.alloc (.cells #[.int .i64 0, .slice none 0 0] 84)).alloc (.cells #[.int .i64 (B : Nat), .slice A m c] 84)).heap[q]? = some (.cells #[.int .i64 0, .slice none 0 0] 84 (0, 0)) ∧ ((W.alloc (.cells #[.int .i64 0, .slice none 0 0] 84)).alloc (.cells #[.int .i64 (B : Nat), .slice A m c] 84)).heap[q + 1]? = some (.cells #[.int .i64 (B : Nat), .slice A m c] 84 (0, 0))) := Lib.hid ⟨by rw [← hq]; exact (Below.heap_alloc (W.alloc _) _ _ (by simp)).trans (heap_alloc_new W _), by have := heap_alloc_new (W.alloc (.cells #[.int .i64 0, .slice none 0 0] 84)) (.cells #[.int .i64 (B : Nat), .slice A m c] 84); rwa [World.size_alloc, hq] at this⟩
  have HQ := Lib.hid hq
  clear hg0 h hp hbx htab hDF hNF K1 hl hk hx hn hm _hr hkl hxi hes hv hB hm' hS hX hXe hk1 hq
  go_enter Tryz.func43, Tryz.ntmps43
  go_wp2_with fail
  have hB0 := HB0.out
  have hX0 := HX0.out
  clear HB0 HX0
  generalize (W.alloc (.cells #[.int .i64 0, .slice none 0 0] 84)).alloc (.cells #[.int .i64 (B : Nat), .slice A m c] 84) = w0 at hB0 hX0 ⊢
  rw [HQ.out]
  have r2 := (hB0.cell (p := ⟨lb, 2, none⟩) hlb).trans c2
  obtain ⟨x0, x1, _, _⟩ := two2 hX0.2
  have CZ2 := Lib.hid fun d os => Calls.regrown_of (d := d) (os := os) (CZ.out (grow (redrawn w0 d) os) (hB0.trans ((below_regrown w0 d os).mono hB0.size)))
  have CN2 := Lib.hid fun d os => Calls.regrown_of (d := d) (os := os) (CN.out (grow (redrawn w0 d) os))
  have g2 := fun d os => cell_regrown r2 d os
  have y0 := fun d os => cell_regrown x0 d os
  have y1 := fun d os => cell_regrown x1 d os
  have HB0 := Lib.hid hB0
  have HX0 := Lib.hid hX0
  clear hB0 hX0 r2 x0 x1 CZ c2 c3 q0 q1 hg hlb
  have d1 : decide ((S : Int) < (room : Int)) = false := decide_eq_false (by omega)
  have d2 : decide ((4611686018427387904 : Int) < (X : Int)) = false := decide_eq_false (by omega)
  have hsz : ¬ S < room := by omega
  have hx2 : ¬ 4611686018427387904 < X := by omega
  clear hroom hnx
  refine wp_region_quiet_below (by kernel_rfl) (by kernel_rfl) ?_
  repeat (go_big_quiet_step ((first | exact CZ2.out _ _ | exact CN2.out _ _)))
  refine wpQuiet_nil ?_
  intro w' hw'
  obtain ⟨⟨d, os⟩, rfl⟩ := hw'
  have hbr := below_regrown w0 d os
  have HB3 := Lib.hid (HB0.out.trans (hbr.mono HB0.out.size))
  have HX3 : Hid ((grow (redrawn w0 d) os).heap[q]? = some (.cells #[.int .i64 0, .slice none 0 0] 84 (0, 0)) ∧ (grow (redrawn w0 d) os).heap[q + 1]? = some (.cells #[.int .i64 (B : Nat), .slice A m c] 84 (0, 0))) := Lib.hid ⟨(hbr.block q (Array.getElem?_eq_some_iff.1 HX0.out.1).1).trans HX0.out.1, (hbr.block (q + 1) (Array.getElem?_eq_some_iff.1 HX0.out.2).1).trans HX0.out.2⟩
  clear CZ2 g2 y0 y1 hbr HX0 HB0
  generalize grow (redrawn w0 d) os = w3 at HB3 HX3 ⊢
  obtain ⟨z0, z1, z2, z3⟩ := two2 HX3.out.1
  obtain ⟨x0, x1, _, _⟩ := two2 HX3.out.2
  have hl3 : q < w3.heap.size := (Array.getElem?_eq_some_iff.1 HX3.out.1).1
  go_wp2_with fail
  go_region_with (first | (go_at_call 38; ((with_reducible refine (CN.out _).mono ?_); rintro e W2 ⟨rfl, hB⟩; have hf4 := (hB.block q hl3).trans HX3.out.1; have hf5 := (hB.block (q + 1) (Array.getElem?_eq_some_iff.1 HX3.out.2).1).trans HX3.out.2; obtain ⟨u0, u1, _, _⟩ := two2 hf5; have CY2 := Lib.hid (CY.out q W2 (HB3.out.drew.trans (hB.mono HB3.out.size)) (by rw [HQ.out]; exact Nat.le_refl _) (Array.getElem?_eq_some_iff.1 hf4).1); have HF4 := Lib.hid hf4; have hl2 : q < W2.heap.size := (Array.getElem?_eq_some_iff.1 hf4).1; clear hB hf4 hf5)) | (go_at_call 70; ((with_reducible refine CY2.out.mono ?_); rintro e W3 ⟨rfl, hO, hq3, hl4⟩; obtain ⟨z0, z1, z2, z3⟩ := two2 (hq3.trans HF4.out))))
  all_goals
    have hf2 : ((W3.setCell ⟨q, 0, none⟩ (.int .i64 (X : Nat))).setCell ⟨q, 1, none⟩ (.slice none 0 0)).heap[q]? = some (.cells #[.int .i64 (X : Nat), .slice none 0 0] 84 (0, 0)) := heap_set (heap_set (hq3.trans HF4.out) 0 _) 1 _
    have hfin := FIN.out q W2 W3 DF (.int .i64 (X : Nat)) (.slice none 0 0) hO.out (by rw [HQ.out]; exact Nat.le_refl _) hl2
    obtain ⟨f0, f1, _, _⟩ := two2 hf2
    have HFIN := Lib.hid hfin
    clear hf2 hfin hO hq3 HF4 CY CY2 FIN
    generalize hwf : (W3.setCell ⟨q, 0, none⟩ (.int .i64 (X : Nat))).setCell ⟨q, 1, none⟩ (.slice none 0 0) = wf at f0 f1 HFIN
    go_wp2_with fail
    simp only [Act.put, List.getElem_toArray, List.getElem_cons_succ, List.getElem_cons_zero, List.setIfInBounds_toArray, List.set_cons_succ, List.set_cons_zero]
    refine bodyPost_ret (v := .tuple #[.int .i64 (k1 : Nat), segV X none 0 0, .int .i64 (NF : Nat)]) (by simp [results, Tryz.results43, go_sem, f0, f1]) rfl ?_
    exact ⟨rfl, HFIN.out⟩

end Go.Proofs.YtnhkpemajknfnaaGreatDoor.Seglog

/-
  Contract of a segment's with.
-/
namespace Go.Proofs.YtnhkpemajknfnaaGreatDoor.Seglog
open Go Go.RowKit Go.Lib Go.Proofs.YtnhkpemajknfnaaGreatDoor.Law Go.Proofs.YtnhkpemajknfnaaGreatDoor.Disk

/-- What with leaves. -/
def Grew (w : World) (base b n : Nat) (v : Value) (es : List En) (e : Ending) (W : World) : Prop :=
  ∃ A' c', e = .returned (segV b A' n c') ∧ EntsAt W base (.slice A' n c') es ∧ w.grownBy W v.ownBlock ∧ ((Value.slice A' n c').ownBlock = v.ownBlock ∨ ∃ g, (Value.slice A' n c').ownBlock = some g ∧ w.heap.size ≤ g)

theorem grown_of_below {w W : World} (h : Below w.heap.size w W) (r : Option Nat) : w.grownBy W r := ⟨h.os, h.tape, h.output, h.size, fun k hk _ => h.block k hk⟩
theorem grown_trans {a b c : World} {r : Option Nat} (h : a.grownBy b r) (k : b.grownBy c r) : a.grownBy c r :=
  ⟨k.os.trans h.os, k.tape.trans h.tape, k.output.trans h.output, Nat.le_trans h.size k.size, fun j hj hr => (k.block j (Nat.lt_of_lt_of_le hj h.size) hr).trans (h.block j hj hr)⟩
/-- A store into a new block, behind. -/
theorem grown_set_new {a b : World} {r : Option Nat} {k i : Nat} (h : a.grownBy b r) (hk : a.heap.size ≤ k) (v : Value) : a.grownBy (b.setCell ⟨k, i, none⟩ v) r :=
  ⟨h.os, h.tape, h.output, by simpa [World.setCell] using h.size, fun j hj hr => (Below.heap_setCell _ _ _ j (fun e => absurd (show j = k from e) (by omega))).trans (h.block j hj hr)⟩

set_option maxRecDepth 100000 in
set_option maxHeartbeats 4000000 in
theorem with_calls (b base k n c m : Nat) (A : Option Addr) (es : List En) (tv : Value) (bs : List Nat) (w : World) (hn : es.length = n) (h : EntsAt w base (.slice A n c) es) (hbase : base ≤ w.heap.size) (hl : n ≤ 1000000000)
    (hs : (⟨b, es⟩ : Sg).size + k ≤ 4294967296) (hT : ∀ W, w.grownBy W (Value.slice A n c).ownBlock → Bytes m W tv bs) :
    Calls Tryz.prog 46 #[segV b A n c, tv, .int .i64 (k : Nat)] w (Grew w base b (n + 1) (.slice A n c) (es ++ [⟨bs, (⟨b, es⟩ : Sg).size + k⟩])) := by
  obtain ⟨q, hq⟩ : ∃ q, w.heap.size = q := ⟨_, rfl⟩
  obtain ⟨S, hS⟩ : ∃ S, (⟨b, es⟩ : Sg).size = S := ⟨_, rfl⟩
  obtain ⟨vb, hvb⟩ : ∃ vb, (Value.slice A n c).ownBlock = vb := ⟨_, rfl⟩
  have hvlt : ∀ g, vb = some g → g < q := fun g hg => by rw [← hq]; exact (h.own g (by rw [hvb]; exact hg)).2.1
  have hB0 : Below w.heap.size w ((w.alloc (.cells #[.int .i64 (b : Nat), .slice A n c] 84)).alloc (.cells #[.int .i64 0, .slice none 0 0] 84)) := ((Below.refl _ _).alloc (Nat.le_refl _) _).alloc (by simp) _
  have hbx0 : ((w.alloc (.cells #[.int .i64 (b : Nat), .slice A n c] 84)).alloc (.cells #[.int .i64 0, .slice none 0 0] 84)).heap[q]? = some (.cells #[.int .i64 (b : Nat), .slice A n c] 84 (0, 0)) := by
    rw [← hq]
    exact (Below.heap_alloc (w.alloc _) _ _ (by simp)).trans (heap_alloc_new w _)
  have hs0 : ((w.alloc (.cells #[.int .i64 (b : Nat), .slice A n c] 84)).alloc (.cells #[.int .i64 0, .slice none 0 0] 84)).heap.size = q + 2 := by simp [hq]
  have hby0 : ((w.alloc (.cells #[.int .i64 (b : Nat), .slice A n c] 84)).alloc (.cells #[.int .i64 0, .slice none 0 0] 84)).heap[q + 1]? = some (.cells #[.int .i64 0, .slice none 0 0] 84 (0, 0)) := by
    have := heap_alloc_new (w.alloc (.cells #[.int .i64 (b : Nat), .slice A n c] 84)) (.cells #[.int .i64 0, .slice none 0 0] 84)
    rwa [World.size_alloc, hq] at this
  have HY0 := Lib.hid hby0
  have HB0 := Lib.hid hB0
  have HX0 := Lib.hid hbx0
  have HS0 := Lib.hid hs0
  have H := Lib.hid h
  have HSK : Hid (S + k ≤ 4294967296) := Lib.hid (by rw [← hS]; exact hs)
  have HT := Lib.hid hT
  have HQ := Lib.hid hq
  have HVB := Lib.hid hvb
  have HVL := Lib.hid hvlt
  have HSZ := Lib.hid hS
  have HN := Lib.hid hn
  have HL := Lib.hid hl
  have HBASE := Lib.hid hbase
  rw [hS]
  clear hB0 hbx0 hby0 hs0 h hs hT hvlt hn hl hS hvb hbase
  go_enter Tryz.func46, Tryz.ntmps46
  go_wp2_with fail
  have hB0 := HB0.out
  have hX0 := HX0.out
  have hS0 := HS0.out
  have hY0 := HY0.out
  clear HB0 HX0 HS0 HY0
  generalize ((w.alloc (.cells #[.int .i64 (b : Nat), .slice A n c] 84)).alloc (.cells #[.int .i64 0, .slice none 0 0] 84)) = w0 at hB0 hX0 hS0 hY0 ⊢
  have HB0 := Lib.hid hB0
  have HX0 := Lib.hid hX0
  have HS0 := Lib.hid hS0
  have HY0 := Lib.hid hY0
  -- what holds in the class
  have HCL : Hid (∀ W, w0.grownBy W vb → (W.cell? ⟨q, 0, none⟩ = some (.int .i64 (b : Nat)) ∧ W.cell? ⟨q, 1, none⟩ = some (.slice A n c)) ∧ (convert 29 9 tv).run Tryz.prog W = .ok (.string (txt bs)) W) := Lib.hid fun W hW => by
    have hbx : W.heap[q]? = _ := (hW.block q (by omega) (fun e => by have := HVL.out q e.symm; omega)).trans hX0
    refine ⟨⟨(two2 hbx).1, (two2 hbx).2.1⟩, ?_⟩
    exact run_string_bytes W Tryz.underlying29 Tryz.underlying5 Tryz.underlying9 (HT.out W (by rw [HVB.out]; exact grown_trans (grown_of_below HB0.out vb) hW))
  have HSI : Hid (Calls Tryz.prog 45 #[segV b A n c] w0.drew fun e W => e = .returned (.int .i64 (S : Nat)) ∧ Below w0.drew.heap.size w0.drew W) := Lib.hid (by
    have h1 := size_calls b A n c base es w0.drew HN.out ((H.out.below HB0.out).keep fun _ _ => rfl) (by have := HL.out; omega)
    rw [HSZ.out] at h1
    exact h1)
  obtain ⟨SK, hSK⟩ : ∃ SK, S + k = SK := ⟨_, rfl⟩
  have hwrap : IntKind.i64.wrap ((S : Int) + (k : Int)) = (SK : Int) := by rw [IntWalk.i64_in _ (by have := HSK.out; omega)]; omega
  have hE0 : EntsAt w0 base (.slice A n c) es := H.out.below HB0.out
  have HE0 := Lib.hid hE0
  have HSKE := Lib.hid hSK
  clear hB0 hX0 hS0 hY0 hq hE0 H hSK
  refine wp_region_noPanic ?_
  refine wp_region_held_tail (C := fun w' => w0.grownBy w' vb) [0, 1, 2, 3, 4, 6] [5, 7, 8, 9, 10, 11, 12] 12 (by kernel_rfl) (by kernel_rfl) (fun _ _ _ _ _ h => h) ?_ ?_
  · exact ⟨rfl, rfl, rfl, Nat.le_refl _, fun _ _ _ => rfl⟩
  iterate 6
    refine heldI_step (v := ?_) rfl (by rfl) (fun w' hw' => ?_) ?_
    rotate_left
    · obtain ⟨⟨k0, k1⟩, k2⟩ := HCL.out w' hw'
      go_simp
      all_goals with_reducible rfl
    simp only [Act.put, List.getElem_toArray, List.getElem_cons_succ, List.getElem_cons_zero, List.setIfInBounds_toArray, List.set_cons_succ, List.set_cons_zero]
  refine heldI_nil ?_
  refine seqI_step rfl ?_
  simp only [List.getElem_toArray, List.getElem_cons_succ, List.getElem_cons_zero]
  go_wp2_with (go_at_call 45; ((with_reducible refine HSI.out.mono ?_); rintro e W1 ⟨rfl, hB1⟩))
  have G0 : w0.grownBy w0.drew vb := ⟨rfl, rfl, rfl, Nat.le_refl _, fun _ _ _ => rfl⟩
  have G1 : w0.grownBy W1 vb := grown_trans G0 (grown_of_below hB1 vb)
  refine ⟨G1, ?_⟩
  have HE1 : Hid (EntsAt W1 base (.slice A n c) es) := Lib.hid ((HE0.out.keep (W' := w0.drew) fun _ _ => rfl).below hB1)
  have HG1 := Lib.hid G1
  have hs1 : q + 2 ≤ W1.heap.size := by have := G1.size; have := HS0.out; omega
  clear hB1 HSI G1 G0
  refine seqI_step rfl ?_
  simp only [List.getElem_toArray, List.getElem_cons_succ, List.getElem_cons_zero]
  go_wp2_with fail
  refine ⟨HG1.out, ?_⟩
  refine seqI_step rfl ?_
  simp only [List.getElem_toArray, List.getElem_cons_succ, List.getElem_cons_zero]
  go_wp2_with fail
  refine ⟨HG1.out, ?_⟩
  refine seqI_step rfl ?_
  simp only [List.getElem_toArray, List.getElem_cons_succ, List.getElem_cons_zero]
  go_wp2_with fail
  have hB2 : Below W1.heap.size W1 (W1.alloc (.cells #[.string (txt bs), .int .i64 (SK : Nat)] 88)) := (Below.refl _ _).alloc (Nat.le_refl _) _
  have G2 := grown_trans HG1.out (grown_of_below hB2 vb)
  refine ⟨G2, ?_⟩
  obtain ⟨A', c', W', hrun, hE', hgr, hown⟩ := EntsAt.append (es := es) (HE1.out.below hB2) (by rw [World.size_alloc]; have := HBASE.out; have := HQ.out; omega) 82 W1.heap.size ⟨bs, SK⟩ (heap_alloc_new W1 _) (by rw [HN.out]; exact HL.out)
  rw [HN.out] at hrun hE' hown
  rw [HVB.out] at hgr hown
  have G3 := grown_trans G2 hgr
  have HRUN := Lib.hid hrun
  have HE' := Lib.hid hE'
  have HG3 := Lib.hid G3
  have HOWN := Lib.hid hown
  clear hB2 G2 hrun hE' hgr hown G3 HE1
  refine seqI_step rfl ?_
  simp only [List.getElem_toArray, List.getElem_cons_succ, List.getElem_cons_zero]
  go_wp2_with (at_builtin; refine wpList_append_ran rfl _ _ _ rfl rfl rfl HRUN.out ?_)
  refine ⟨HG3.out, ?_⟩
  refine seqI_step rfl ?_
  simp only [List.getElem_toArray, List.getElem_cons_succ, List.getElem_cons_zero]
  go_wp2_with fail
  refine ⟨HG3.out, ?_⟩
  have hbx : W'.heap[q]? = some (.cells #[.int .i64 (b : Nat), .slice A n c] 84 (0, 0)) := (HG3.out.block q (by have := HS0.out; omega) (fun e => by have := HVL.out q e.symm; omega)).trans HX0.out
  have hby : W'.heap[q + 1]? = some (.cells #[.int .i64 0, .slice none 0 0] 84 (0, 0)) := (HG3.out.block (q + 1) (by have := HS0.out; omega) (fun e => by have := HVL.out (q + 1) e.symm; omega)).trans HY0.out
  have hbx2 := heap_set hbx 1 (.slice A' (n + 1) c')
  have hq0 : (Value.slice A' (n + 1) c').ownBlock ≠ some q := by
    intro e
    rcases HOWN.out with h1 | h1
    · rw [e] at h1; have := HVL.out q h1.symm; omega
    · rw [e, World.size_alloc] at h1; simp only [Option.some.injEq] at h1; omega
  have hEf : EntsAt (W'.setCell ⟨q, 1, none⟩ (.slice A' (n + 1) c')) base (.slice A' (n + 1) c') (es ++ [⟨bs, SK⟩]) := HE'.out.keep fun g hg => Below.heap_setCell _ _ _ g (fun e => hq0 (by rw [hg]; exact congrArg some e))
  have hGf : w.grownBy (W'.setCell ⟨q, 1, none⟩ (.slice A' (n + 1) c')) vb := grown_set_new (grown_trans (grown_of_below HB0.out vb) HG3.out) (by rw [HQ.out]; exact Nat.le_refl _) _
  have hoF : (Value.slice A' (n + 1) c').ownBlock = vb ∨ ∃ g, (Value.slice A' (n + 1) c').ownBlock = some g ∧ w.heap.size ≤ g := by
    rcases HOWN.out with h1 | h1
    · exact .inl h1
    · exact .inr ⟨_, h1, by rw [World.size_alloc, HQ.out]; omega⟩
  have hby2 : (W'.setCell ⟨q, 1, none⟩ (.slice A' (n + 1) c')).heap[q + 1]? = some (.cells #[.int .i64 0, .slice none 0 0] 84 (0, 0)) := (Below.heap_setCell _ _ _ (q + 1) (fun e => absurd (show q + 1 = q from e) (by omega))).trans hby
  have hq1 : (Value.slice A' (n + 1) c').ownBlock ≠ some (q + 1) := by
    intro e
    rcases HOWN.out with h1 | h1
    · rw [e] at h1; have := HVL.out (q + 1) h1.symm; omega
    · rw [e, World.size_alloc] at h1; simp only [Option.some.injEq] at h1; omega
  obtain ⟨p0, p1, _, p3⟩ := two2 hbx
  have HX2 := Lib.hid hbx2
  have HY2 := Lib.hid hby2
  have HEF := Lib.hid hEf
  have HQ1 := Lib.hid hq1
  have HGF := Lib.hid hGf
  have HOF := Lib.hid hoF
  have hlt' : q < W'.heap.size := (Array.getElem?_eq_some_iff.1 hbx).1
  clear hbx hbx2 hby hby2 hEf hGf hoF hq0 hq1
  refine seqI_last rfl ?_
  simp only [List.getElem_toArray, List.getElem_cons_succ, List.getElem_cons_zero]
  go_wp2_with fail
  refine NoPanic.normal ?_
  have hX2 := HX2.out
  have hY2 := HY2.out
  have hEf := HEF.out
  have hGf := HGF.out
  generalize W'.setCell ⟨q, 1, none⟩ (.slice A' (n + 1) c') = W at hX2 hY2 hEf hGf ⊢
  obtain ⟨r0, r1, _, _⟩ := two2 (show W.heap[q]? = some (.cells #[.int .i64 (b : Nat), .slice A' (n + 1) c'] 84 (0, 0)) from hX2)
  obtain ⟨s0, s1, s2, s3⟩ := two2 hY2
  have hltW : q + 1 < W.heap.size := (Array.getElem?_eq_some_iff.1 hY2).1
  have HEF2 := Lib.hid hEf
  have HGF2 := Lib.hid hGf
  have HY3 := Lib.hid hY2
  clear hX2 hY2 hEf hGf HX2 HY2 HEF HGF
  go_wp2_with fail
  have hf2 : ((W.setCell ⟨q + 1, 0, none⟩ (.int .i64 (b : Nat))).setCell ⟨q + 1, 1, none⟩ (.slice A' (n + 1) c')).heap[q + 1]? = some (.cells #[.int .i64 (b : Nat), .slice A' (n + 1) c'] 84 (0, 0)) := heap_set (heap_set HY3.out 0 _) 1 _
  have hEg := HEF2.out.keep (W' := (W.setCell ⟨q + 1, 0, none⟩ (.int .i64 (b : Nat))).setCell ⟨q + 1, 1, none⟩ (.slice A' (n + 1) c')) fun g hg => (Below.heap_setCell _ _ _ g (fun e => HQ1.out (by rw [hg]; exact congrArg some e))).trans (Below.heap_setCell _ _ _ g (fun e => HQ1.out (by rw [hg]; exact congrArg some e)))
  have hGg : w.grownBy ((W.setCell ⟨q + 1, 0, none⟩ (.int .i64 (b : Nat))).setCell ⟨q + 1, 1, none⟩ (.slice A' (n + 1) c')) vb := grown_set_new (grown_set_new HGF2.out (by rw [HQ.out]; omega) _) (by rw [HQ.out]; omega) _
  generalize (W.setCell ⟨q + 1, 0, none⟩ (.int .i64 (b : Nat))).setCell ⟨q + 1, 1, none⟩ (.slice A' (n + 1) c') = Z at hf2 hEg hGg ⊢
  obtain ⟨z0, z1, _, _⟩ := two2 hf2
  rw [HSKE.out]
  refine bodyPost_ret (v := segV b A' (n + 1) c') (by simp [results, Tryz.results46, go_sem, z0, z1]) rfl ?_
  exact ⟨A', c', rfl, hEg, by rw [HVB.out]; exact hGg, by rw [HVB.out]; exact HOF.out⟩

end Go.Proofs.YtnhkpemajknfnaaGreatDoor.Seglog

/-
  Plain facts: a segment, one entry longer or new, is put behind the first ones of a log's row.
-/
namespace Go.Proofs.YtnhkpemajknfnaaGreatDoor.Seglog
open Go Go.RowKit Go.Lib Go.Proofs.YtnhkpemajknfnaaGreatDoor.Law Go.Proofs.YtnhkpemajknfnaaGreatDoor.Disk

theorem own_len (A : Option Addr) (n c n' c' : Nat) : (Value.slice A n c).ownBlock = (Value.slice A n' c').ownBlock := by cases A <;> rfl
/-- The row's first elements. -/
theorem _root_.Go.Proofs.YtnhkpemajknfnaaGreatDoor.Law.Seg.first {W : World} {base size n cap : Nat} {e : TypeId} {A : Option Addr} {xs : List Value} (h : Seg W base e size (.slice A n cap) n xs) (k : Nat) (hk : k ≤ n) : Seg W base e size (.slice A k cap) k (xs.take (k * size)) := by
  have hl := h.1
  have hm : k * size ≤ n * size := Nat.mul_le_mul_right _ hk
  refine ⟨by rw [List.length_take, hl]; omega, ?_⟩
  rcases h.2 with ⟨hv, h0⟩ | ⟨g, o, cap', cur, hv, h1, h2, h3, h4, h5, h6⟩
  · have hk0 : k = 0 := by omega
    subst h0
    subst hk0
    exact .inl ⟨hv, rfl⟩
  · simp only [Value.slice.injEq, true_and] at hv
    obtain ⟨rfl, rfl⟩ := hv
    refine .inr ⟨g, o, cap, cur, rfl, h1, h2, by omega, h4, h5, ?_⟩
    rw [← h6, List.take_take, Nat.min_eq_left hm]
theorem SegsAt.first {W : World} {base n cap : Nat} {A : Option Addr} {l : List SV} (h : SegsAt W base (.slice A n cap) l) (hn : l.length = n) (k : Nat) (hk : k ≤ n) : SegsAt W base (.slice A k cap) (l.take k) := by
  have h1 := h.1
  rw [hn] at h1
  refine ⟨?_, fun q hq => h.2 q (List.mem_of_mem_take hq)⟩
  rw [List.length_take, hn, Nat.min_eq_left hk, ← flatS_take l k]
  exact h1.first k hk

theorem _root_.Go.Proofs.YtnhkpemajknfnaaGreatDoor.Disk.Dx.turnAdd {Fr : Nat → Prop} {w W W' : World} {db : Nat} {D : DS} (h : Dx Fr w db D W) (hs : W.heap.size ≤ W'.heap.size) (hk : ∀ k, k < W.heap.size → ¬ Fr k → W'.heap[k]? = W.heap[k]?) (hos : W'.os = W.os) (htp : W'.tape = W.tape) (hout : W'.output = W.output) : Dx (fun k => Fr k ∨ (W.heap.size ≤ k ∧ k < W'.heap.size)) w db D W' := by
  obtain ⟨O, h1, h2, h3, h4, h5⟩ := h
  refine ⟨O, h1.keep hs fun k hk' ho => hk k hk' fun hf => ho (h5 k hf).2.2, h2, ⟨hos.trans h3.os, htp.trans h3.tape, hout.trans h3.output, Nat.le_trans h3.size hs, fun k hk' => ?_⟩, h4, fun k hf => ?_⟩
  · rw [hk k (Nat.lt_of_lt_of_le hk' h3.size) fun hf => by have := (h5 k hf).1; omega]
    exact h3.block k hk'
  · rcases hf with hf | hf
    · exact ⟨(h5 k hf).1, Nat.lt_of_lt_of_le (h5 k hf).2.1 hs, (h5 k hf).2.2⟩
    · exact ⟨Nat.le_trans h3.size hf.1, hf.2, Classical.byContradiction fun e => by have := h1.lt k e; omega⟩

/-- New blocks beside a log's. -/
def Plus (Fr : Nat → Prop) (W W' : World) : Nat → Prop := fun k => Fr k ∨ (W.heap.size ≤ k ∧ k < W'.heap.size)
theorem LogIn.add {R : Nat → Prop} {base lb db room : Nat} {p : ByteArray} {bk : Bool} {W W' : World} {v : Value} {l : List SV} (h : LogIn R base lb db p room bk W v l) (hB : Below W.heap.size W W') : LogIn (Plus R W W') base lb db p room bk W' v l :=
  ⟨h.le, h.block.below hB, ⟨h.segs.1.below hB, fun q hq => (h.segs.2 q hq).below hB⟩, .inl h.rl, fun g hg => .inl (h.rv g hg), fun q hq g hg => .inl (h.re q hq g hg), fun k hk => by
    rcases hk with hk | hk
    · exact Nat.lt_of_lt_of_le (h.lt k hk) hB.size
    · exact hk.2⟩
theorem Lg.add {Fr : Nat → Prop} {w W W' : World} {base lb db room : Nat} {D : DS} {p : ByteArray} {v : Value} {bk : Bool} {l : List SV} (h : Lg Fr w base lb db D p room bk v l W) (hB : Below W.heap.size W W') : Lg (Plus Fr W W') w base lb db D p room bk v l W' := ⟨Dx.add h.1 hB, h.2.add hB⟩

/-- The segments' entries lie in blocks of their own. -/
def DistL (l : List SV) : Prop := l.Pairwise fun a b => ∀ g, a.2.ownBlock = some g → b.2.ownBlock ≠ some g

/-- What putting the segment behind leaves: v' is the row. -/
structure RowPut (F : Nat → Prop) (w W : World) (base lb db : Nat) (D : DS) (p : ByteArray) (room : Nat) (v vb : Value) (l' : List SV) (v' : Value) (Z : World) : Prop where
  lg : Lg (Plus F W Z) w base lb db D p room false v' l' Z
  dist : DistL l'
  kept : ∀ k, k < W.heap.size → k ≠ lb → v.ownBlock ≠ some k → vb.ownBlock ≠ some k → Z.heap[k]? = W.heap[k]?
  row : v'.ownBlock = v.ownBlock ∨ ∃ g, v'.ownBlock = some g ∧ W.heap.size ≤ g
  size : W.heap.size ≤ Z.heap.size

theorem append_row {F : Nat → Prop} {w W W8 : World} {base lb db room : Nat} {D : DS} {p : ByteArray} {l : List SV} {vA : Option Addr} {N cap : Nat} (h : Lg F w base lb db D p room false (.slice vA N cap) l W) (hN : l.length = N) (hroom : N ≤ 1000000000) (hd : DistL l)
    (ah : Nat) (hah : ah ≤ N) {A : Option Addr} {n c : Nat} {es : List En} (hE : EntsAt W base (.slice A n c) es) (hF : ∀ g, (Value.slice A n c).ownBlock = some g → F g) (hne : ∀ q ∈ l.take ah, ∀ g, q.2.ownBlock = some g → (Value.slice A n c).ownBlock ≠ some g)
    (hg : W.grownBy W8 (Value.slice A n c).ownBlock) {b : Nat} {A' : Option Addr} {n' c' : Nat} {es' : List En} (hE' : EntsAt W8 base (.slice A' n' c') es') (hown : (Value.slice A' n' c').ownBlock = (Value.slice A n c).ownBlock ∨ ∃ g, (Value.slice A' n' c').ownBlock = some g ∧ W.heap.size ≤ g) (ty : TypeId) :
    ∃ A2 c2 W10, (Builtin.append_ #[79, 79] ty #[.slice vA ah cap, .slice (some ⟨W8.heap.size, 0, none⟩) 1 1]).run Tryz.prog (W8.alloc (.cells #[.int .i64 (b : Nat), .slice A' n' c'] 84)) = .ok (.slice A2 (ah + 1) c2) W10 ∧
      (W10.heap[lb]? = W.heap[lb]? ∧ ∀ k, k < W.heap.size → (Value.slice vA N cap).ownBlock ≠ some k → (Value.slice A n c).ownBlock ≠ some k → W10.heap[k]? = W.heap[k]?) ∧
      RowPut F w W base lb db D p room (.slice vA N cap) (.slice A n c) (l.take ah ++ [(⟨b, es'⟩, .slice A' n' c')]) (.slice A2 (ah + 1) c2) (W10.setCell ⟨lb, 3, none⟩ (.slice A2 (ah + 1) c2)) := by
  have hlt := h.2.block.lt
  have hLB := h.2.block
  have hLB' : W.heap[lb]? = some _ := hLB
  have hbase : base ≤ W.heap.size := by have := h.2.le; omega
  -- blocks of other kinds are told apart
  have hvA : ∀ g, (Value.slice vA N cap).ownBlock = some g → (Value.slice A n c).ownBlock ≠ some g := fun g h1 h2 => by
    obtain ⟨_, _, cur, h3⟩ := h.2.segs.1.own g h1
    obtain ⟨_, _, cur', h4⟩ := hE.own g h2
    rw [h3] at h4
    simp only [Option.some.injEq, Obj.cells.injEq] at h4
    exact absurd h4.2.1 (by decide)
  have hlA : (Value.slice A n c).ownBlock ≠ some lb := fun h2 => by
    obtain ⟨_, _, cur', h4⟩ := hE.own lb h2
    rw [hLB'] at h4
    simp only [Option.some.injEq, Obj.cells.injEq] at h4
    exact absurd h4.2.1 (by decide)
  have hlv : (Value.slice vA N cap).ownBlock ≠ some lb := fun h2 => by
    obtain ⟨_, _, cur', h4⟩ := h.2.segs.1.own lb h2
    rw [hLB'] at h4
    simp only [Option.some.injEq, Obj.cells.injEq] at h4
    exact absurd h4.2.1 (by decide)
  have hoA := own_len vA ah cap N cap
  -- the first ones
  have hS := h.2.segs.first hN ah hah
  obtain ⟨W9, hW9⟩ : ∃ W9, W8.alloc (.cells #[.int .i64 (b : Nat), .slice A' n' c'] 84) = W9 := ⟨_, rfl⟩
  have hB9 : Below W8.heap.size W8 W9 := by rw [← hW9]; exact (Below.refl _ _).alloc (Nat.le_refl _) _
  have hg9 : W.grownBy W9 (Value.slice A n c).ownBlock := grown_trans hg (grown_of_below hB9 _)
  have hS9 : SegsAt W9 base (.slice vA ah cap) (l.take ah) := ⟨hS.1.keep fun g h1 => hg9.block g (hS.1.own g h1).2.1 (fun e => hvA g (by rw [← hoA]; exact h1) e.symm), fun q hq => (hS.2 q hq).keep fun g h1 => hg9.block g ((hS.2 q hq).own g h1).2.1 (fun e => hne q hq g h1 e.symm)⟩
  have hE9 : EntsAt W9 base (.slice A' n' c') es' := hE'.below hB9
  have hx9 : W9.heap[W8.heap.size]? = some (.cells #[.int .i64 (b : Nat), .slice A' n' c'] 84 (0, 0)) := by rw [← hW9]; exact heap_alloc_new W8 _
  have hsz9 : W.heap.size ≤ W9.heap.size := hg9.size
  have hlen : (l.take ah).length = ah := by rw [List.length_take]; omega
  obtain ⟨A2, c2, W10, hrun, hS10, hg10, ho10⟩ := hS9.append (by omega) ty W8.heap.size (⟨b, es'⟩, .slice A' n' c') hx9 hE9 (by omega)
  rw [hlen] at hrun hS10 ho10
  have hl10 : W10.heap[lb]? = W.heap[lb]? := (hg10.block lb (by omega) (fun e => hlv (by rw [← hoA]; exact e.symm))).trans (hg9.block lb hlt (fun e => hlA e.symm))
  have hs10 : W.heap.size ≤ W10.heap.size := Nat.le_trans hsz9 hg10.size
  have hkp : ∀ k, k < W.heap.size → (Value.slice vA N cap).ownBlock ≠ some k → (Value.slice A n c).ownBlock ≠ some k → W10.heap[k]? = W.heap[k]? := fun k hk h1 h2 =>
    (hg10.block k (by omega) (fun e => h1 (by rw [← hoA]; exact e.symm))).trans (hg9.block k hk (fun e => h2 e.symm))
  have hD10 : Dx (Plus F W W10) w db D W10 := h.1.turnAdd hs10 (fun k hk hf => hkp k hk (fun e => hf (h.2.rv k e)) (fun e => hf (hF k e))) (hg10.os.trans hg9.os) (hg10.tape.trans hg9.tape) (hg10.output.trans hg9.output)
  have hnew : ∀ g, (Value.slice A' n' c').ownBlock = some g → (Value.slice A n c).ownBlock = some g ∨ W.heap.size ≤ g := fun g h1 => by
    rcases hown with h2 | ⟨g', h2, h3⟩
    · exact .inl (by rw [← h2]; exact h1)
    · rw [h1] at h2; obtain rfl := Option.some.inj h2; exact .inr h3
  have hlt10 : ∀ g, (Value.slice A' n' c').ownBlock = some g → g < W10.heap.size := fun g h1 => Nat.lt_of_lt_of_le (hE9.own g h1).2.1 hg10.size
  refine ⟨A2, c2, W10, hW9 ▸ hrun, ⟨hl10, hkp⟩, ?_, ?_, ?_, ?_, ?_⟩
  · have hsz : (W10.setCell ⟨lb, 3, none⟩ (.slice A2 (ah + 1) c2)).heap.size = W10.heap.size := by simp [World.setCell]
    have := Lg.row (Fr := Plus F W W10) (v' := .slice A2 (ah + 1) c2) (l' := l.take ah ++ [(⟨b, es'⟩, .slice A' n' c')]) hD10 (hl10.trans hLB) h.2.le hS10 (.inl h.2.rl) (fun g h1 => by
      rcases ho10 with h2 | h2
      · exact .inl (h.2.rv g (by rw [← hoA, ← h2]; exact h1))
      · rw [h1] at h2; obtain rfl := Option.some.inj h2
        exact .inr ⟨hsz9, (hS10.1.own _ h1).2.1⟩) (fun q hq g h1 => by
      rcases List.mem_append.1 hq with h2 | h2
      · exact .inl (h.2.re q (List.mem_of_mem_take h2) g h1)
      · rw [List.mem_singleton.1 h2] at h1
        rcases hnew g h1 with h3 | h3
        · exact .inl (hF g h3)
        · exact .inr ⟨h3, hlt10 g h1⟩)
    have hP : Plus F W (W10.setCell ⟨lb, 3, none⟩ (.slice A2 (ah + 1) c2)) = Plus F W W10 := by unfold Plus; rw [hsz]
    rw [hP]
    exact this
  · refine List.pairwise_append.2 ⟨hd.sublist (List.take_sublist _ _), List.pairwise_singleton _ _, fun q hq y hy g h1 h2 => ?_⟩
    rw [List.mem_singleton.1 hy] at h2
    rcases hnew g h2 with h3 | h3
    · exact hne q hq g h1 h3
    · have := ((hS.2 q hq).own g h1).2.1; omega
  · intro k hk h1 h2 h3
    exact (Below.heap_setCell _ _ _ k (fun e => h1 e)).trans (hkp k hk h2 h3)
  · rcases ho10 with h1 | h1
    · exact .inl (h1.trans hoA)
    · exact .inr ⟨_, h1, hsz9⟩
  · simpa [World.setCell] using hs10

/-- What holds between Append's calls: F the frame's bytes, q the box that holds the segment. -/
structure Mid (Fr F5 : Nat → Prop) (w W : World) (base lb db : Nat) (D : DS) (p : ByteArray) (room : Nat) (v : Value) (l : List SV) (b : Nat) (A : Option Addr) (n c : Nat) (es : List En) (fv : Value) (F : List Nat) (q : Nat) (w0 : World) : Prop where
  lg : Lg F5 w base lb db D p room false v l w0
  more : ∀ k, Fr k → F5 k
  new : ∀ k, F5 k → Fr k ∨ W.heap.size ≤ k
  own : OwnB w0 W.heap.size 5 fv F
  ownF : ∀ g, fv.ownBlock = some g → F5 g
  box : w0.heap[q]? = some (.cells #[.int .i64 (b : Nat), .slice A n c] 84 (0, 0))
  boxF : F5 q
  boxN : W.heap.size ≤ q
  ents : EntsAt w0 base (.slice A n c) es
  entF : ∀ g, (Value.slice A n c).ownBlock = some g → F5 g
  row : ∀ g, v.ownBlock = some g → g < W.heap.size
  kept : ∀ k, Fr k → w0.heap[k]? = W.heap[k]?
  size : W.heap.size ≤ w0.heap.size

theorem OwnB.keepO {W W' : World} {base : Nat} {e : TypeId} {sv : Value} {bs : List Nat} (h : OwnB W base e sv bs) (hb : ∀ g, sv.ownBlock = some g → W'.heap[g]? = W.heap[g]?) : OwnB W' base e sv bs := by
  refine ⟨⟨h.1.1, ?_⟩, h.2⟩
  rcases h.1.2 with h0 | ⟨g, cap, cur, rfl, h1, h2, h3⟩
  · exact .inl h0
  · exact .inr ⟨g, cap, cur, rfl, h1, (hb g rfl).trans h2, h3⟩
theorem LogIn.mono {R R' : Nat → Prop} {base lb db room : Nat} {p : ByteArray} {bk : Bool} {W : World} {v : Value} {l : List SV} (h : LogIn R base lb db p room bk W v l) (hR : ∀ k, R k → R' k) (hlt : ∀ k, R' k → k < W.heap.size) : LogIn R' base lb db p room bk W v l :=
  ⟨h.le, h.block, h.segs, hR _ h.rl, fun g hg => hR _ (h.rv g hg), fun q hq g hg => hR _ (h.re q hq g hg), hlt⟩

section
variable {Fr F5 : Nat → Prop} {w W w0 : World} {base lb db room b n c q : Nat} {D : DS} {p : ByteArray} {v fv : Value} {l : List SV} {A : Option Addr} {es : List En} {F : List Nat}

theorem Mid.turn (h : Mid Fr F5 w W base lb db D p room v l b A n c es fv F q w0) {D' : DS} {w1 : World} (hD : Dx F5 w db D' w1) (hS : SameOn F5 w0 w1) : Mid Fr F5 w W base lb db D' p room v l b A n c es fv F q w1 :=
  ⟨⟨hD, LogIn.same h.lg.2 hS⟩, h.more, h.new, OwnB.keepO h.own fun g hg => hS.1 g (h.ownF g hg), h.ownF, (hS.1 q h.boxF).trans h.box, h.boxF, h.boxN, h.ents.keep fun g hg => hS.1 g (h.entF g hg), h.entF, h.row, fun k hk => (hS.1 k (h.more k hk)).trans (h.kept k hk), Nat.le_trans h.size hS.2⟩
theorem Mid.below (h : Mid Fr F5 w W base lb db D p room v l b A n c es fv F q w0) {w1 : World} (hB : Below w0.heap.size w0 w1) : Mid Fr F5 w W base lb db D p room v l b A n c es fv F q w1 := h.turn (Dx.below h.lg.1 hB) (Dx.sameOn h.lg.1 hB)
theorem Mid.boxLt (h : Mid Fr F5 w W base lb db D p room v l b A n c es fv F q w0) : q < w0.heap.size := (Array.getElem?_eq_some_iff.1 h.box).1
theorem Mid.notRow (h : Mid Fr F5 w W base lb db D p room v l b A n c es fv F q w0) : v.ownBlock ≠ some q := fun e => by have := h.row q e; have := h.boxN; omega
theorem Mid.notEnts (h : Mid Fr F5 w W base lb db D p room v l b A n c es fv F q w0) : (Value.slice A n c).ownBlock ≠ some q ∧ (Value.slice A n c).ownBlock ≠ some lb := by
  refine ⟨fun e => ?_, fun e => ?_⟩
  · obtain ⟨_, _, cur, h1⟩ := h.ents.own q e
    rw [h.box] at h1
    simp only [Option.some.injEq, Obj.cells.injEq] at h1
    exact absurd h1.2.1 (by decide)
  · obtain ⟨_, _, cur, h1⟩ := h.ents.own lb e
    have h2 : w0.heap[lb]? = some _ := h.lg.2.block
    rw [h2] at h1
    simp only [Option.some.injEq, Obj.cells.injEq] at h1
    exact absurd h1.2.1 (by decide)
theorem Mid.start (h : Lg Fr w base lb db D p room false v l W) {W3 W4 : World} (hB3 : Below W.heap.size W W3) (hO : OwnB W3 W.heap.size 5 fv F) {DG : DS} (hD4 : Dx (Plus Fr W W3) w db DG W4) (hS4 : SameOn (Plus Fr W W3) W3 W4)
    (hE : EntsAt W base (.slice A n c) es) (hF : ∀ g, (Value.slice A n c).ownBlock = some g → Fr g) :
    Mid Fr (Plus (Plus Fr W W3) W4 (W4.alloc (.cells #[.int .i64 (b : Nat), .slice A n c] 84))) w W base lb db DG p room v l b A n c es fv F W4.heap.size (W4.alloc (.cells #[.int .i64 (b : Nat), .slice A n c] 84)) := by
  have hB5 : Below W4.heap.size W4 (W4.alloc (.cells #[.int .i64 (b : Nat), .slice A n c] 84)) := (Below.refl _ _).alloc (Nat.le_refl _) _
  have hs34 : W3.heap.size ≤ W4.heap.size := hS4.2
  have hL3 := (h.add hB3).2
  have hL4 := LogIn.same hL3 hS4
  have hOl : ∀ g, fv.ownBlock = some g → W.heap.size ≤ g ∧ g < W3.heap.size := fun g hg => by
    have hlt := (hO.1.lt g hg).2
    rcases hO.1.2 with ⟨rfl, _⟩ | ⟨g', cap, cur, rfl, h1, _⟩
    · cases hg
    · simp only [Value.ownBlock, Option.some.injEq] at hg
      subst hg
      exact ⟨h1, hlt⟩
  refine ⟨⟨Dx.add hD4 hB5, ?_⟩, fun k hk => .inl (.inl hk), fun k hk => ?_, ?_, fun g hg => .inl (.inr (hOl g hg)), heap_alloc_new W4 _, .inr ⟨Nat.le_refl _, by simp⟩, Nat.le_trans hB3.size hs34, ?_, fun g hg => .inl (.inl (hF g hg)), fun g hg => (h.2.segs.1.own g hg).2.1, fun k hk => ?_, Nat.le_trans hB3.size (Nat.le_trans hs34 hB5.size)⟩
  · exact (hL4.add hB5)
  · have h3 := hB3.size
    rcases hk with (hk | hk) | hk
    · exact .inl hk
    · exact .inr hk.1
    · exact .inr (by omega)
  · refine OwnB.below (OwnB.keepO hO fun g hg => hS4.1 g (.inr (hOl g hg))) hB5
  · have h3 : EntsAt W3 base (.slice A n c) es := hE.below hB3
    have h4 : EntsAt W4 base (.slice A n c) es := h3.keep fun g hg => hS4.1 g (.inl (hF g hg))
    exact h4.below hB5
  · have hk3 := (Dx.in h.1 hk).2
    have := hB3.size
    exact (hB5.block k (by omega)).trans ((hS4.1 k (.inl hk)).trans (hB3.block k hk3))
end

/-- A block of another kind than a log's. -/
def Alien (W : World) (k : Nat) : Prop := ∃ cur e fz, W.heap[k]? = some (.cells cur e fz) ∧ e ≠ 81 ∧ e ≠ 84 ∧ e ≠ 88
theorem Alien.log {R : Nat → Prop} {base lb db room : Nat} {p : ByteArray} {bk : Bool} {W : World} {v : Value} {l : List SV} {k : Nat} (h : Alien W k) (hl : LogIn R base lb db p room bk W v l) : k ≠ lb ∧ v.ownBlock ≠ some k ∧ ∀ q ∈ l, q.2.ownBlock ≠ some k := by
  obtain ⟨cur, e, fz, h0, h1, h2, h3⟩ := h
  refine ⟨fun hk => ?_, fun hk => ?_, fun q hq hk => ?_⟩
  · subst hk
    have h4 : W.heap[k]? = some _ := hl.block
    rw [h0] at h4
    simp only [Option.some.injEq, Obj.cells.injEq] at h4
    exact h1 h4.2.1
  · obtain ⟨_, _, cur', h4⟩ := hl.segs.1.own k hk
    rw [h0] at h4
    simp only [Option.some.injEq, Obj.cells.injEq] at h4
    exact h2 h4.2.1
  · obtain ⟨_, _, cur', h4⟩ := (hl.segs.2 q hq).own k hk
    rw [h0] at h4
    simp only [Option.some.injEq, Obj.cells.injEq] at h4
    exact h3 h4.2.1

/-- Bytes that stay where they lie, whatever the log and its disk do. -/
def Stay (Fr : Nat → Prop) (w W : World) (tv : Value) (bs : List Nat) : Prop := ∀ W', (∀ k, (k < w.heap.size ∨ (Fr k ∧ Alien W k)) → W'.heap[k]? = W.heap[k]?) → Bytes W.heap.size W' tv bs
theorem _root_.Go.Proofs.YtnhkpemajknfnaaGreatDoor.Law.Bytes.keepB {n : Nat} {A B : World} (h : ∀ k, k < n → B.heap[k]? = A.heap[k]?) {sv : Value} {bs : List Nat} : Bytes n A sv bs → Bytes n B sv bs
  | ⟨A', cap, e, e1, e2, hb, hc⟩ => ⟨A', cap, e, e1, e2, hb, fun hl => by
    obtain ⟨b, off, e1, h1, h2⟩ := hc hl
    refine ⟨b, off, e1, h1, fun j hj => ?_⟩
    rw [← h2 j hj]
    simp only [World.cell?, h b h1]⟩
theorem Stay.old {Fr : Nat → Prop} {w W : World} {tv : Value} {bs : List Nat} (h : Bytes w.heap.size w tv bs) (hB : Below w.heap.size w W) : Stay Fr w W tv bs := fun W' hk =>
  ((h.below hB).keepB (B := W') fun k hk' => hk k (.inl hk')).more hB.size
theorem Stay.here {Fr : Nat → Prop} {w W : World} {tv : Value} {bs : List Nat} (h : Stay Fr w W tv bs) : Bytes W.heap.size W tv bs := h W fun _ _ => rfl

end Go.Proofs.YtnhkpemajknfnaaGreatDoor.Seglog
