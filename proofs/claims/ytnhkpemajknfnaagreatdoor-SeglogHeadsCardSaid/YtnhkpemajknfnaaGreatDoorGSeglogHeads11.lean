/-
  Put together out of texts of one chain: what they hold stands ahead of each.
-/
import Derived.Test.YtnhkpemajknfnaaGreatDoorGSeglogHeads10
import Derived.Test.YtnhkpemajknfnaaGreatDoorHeldFloat
import Derived.Deep.RegionHeld3
import Derived.LoopTactic
import Derived.Lib.SmallJoins
import Derived.Test.YtnhkpemajknfnaaGreatDoorGSeglogHeads08
/-
  Contract of the log's Read.
-/
namespace Go.Proofs.YtnhkpemajknfnaaGreatDoor.Seglog
open Go Go.RowKit Go.Lib Go.Proofs.YtnhkpemajknfnaaGreatDoor.Law Go.Proofs.YtnhkpemajknfnaaGreatDoor.Disk

/-! Where an offset lies. -/
theorem goes_ahead : ∀ (r : List SV) (s : SV), goesOn ((s :: r).map (·.1)) → ∀ y ∈ r, s.1.next ≤ y.1.base
  | [], _, _, y, hy => by cases hy
  | t :: r, s, h, y, hy => by
    have h1 : t.1.base = s.1.next := h.1
    rcases List.mem_cons.1 hy with rfl | hy
    · omega
    · have h2 := goes_ahead r t h.2.2 y hy
      unfold Sg.next at h1 h2 ⊢
      omega
theorem rising_of : ∀ l : List SV, goesOn (l.map (·.1)) → Rising l
  | [], _ => fun i j x y _ hx _ => by simp at hx
  | s :: r, h => fun i j x y hij hx hy => by
    match i, j, hij, hx, hy with
    | 0, 0, _, hx, hy => simp at hx hy; subst hx; subst hy; exact Nat.le_refl _
    | 0, j + 1, _, hx, hy =>
      simp only [List.getElem?_cons_zero, Option.some.injEq] at hx
      subst hx
      have h2 := goes_ahead r s h y (List.mem_of_getElem? (by simpa using hy))
      unfold Sg.next at h2
      omega
    | i + 1, j + 1, hij, hx, hy => exact rising_of r (goesOn_tail h) i j x y (by omega) (by simpa using hx) (by simpa using hy)
theorem cnt_cons_in (s : SV) (r : List SV) (a : Nat) (h : s.1.base < a) : cntL (s :: r) a = cntL r a + 1 := by
  unfold cntL
  rw [List.filter_cons_of_pos (by simpa using h), List.length_cons]
theorem find_of : ∀ (l : List SV) (a : Nat), goesOn (l.map (·.1)) → firstL (l.map (·.1)) ≤ a → a < nextL (l.map (·.1)) → ∃ i x, cntL l (a + 1) = i + 1 ∧ l[i]? = some x ∧ x.1.base ≤ a ∧ a < x.1.next
  | [], a, _, _, h => by simp [nextL] at h
  | [s], a, _, h1, h2 => by
    simp [firstL] at h1
    simp [nextL] at h2
    refine ⟨0, s, ?_, rfl, h1, h2⟩
    rw [cnt_cons_in s [] (a + 1) (by omega)]; rfl
  | s :: t :: r, a, hg, h1, h2 => by
    simp [firstL] at h1
    have h3 : t.1.base = s.1.next := hg.1
    by_cases ha : a < t.1.base
    · refine ⟨0, s, ?_, rfl, h1, by omega⟩
      refine cnt_boundary _ _ 1 (by simp) (fun k x hk hx => ?_) (fun k x hk hx => ?_)
      · obtain rfl : k = 0 := by omega
        simp at hx; subst hx; omega
      · obtain ⟨k', rfl⟩ : ∃ k', k = k' + 1 := ⟨k - 1, by omega⟩
        have h4 := rising_of (t :: r) (goesOn_tail hg) 0 k' t x (Nat.zero_le _) rfl (by simpa using hx)
        omega
    · obtain ⟨i, x, e1, e2, e3, e4⟩ := find_of (t :: r) a (goesOn_tail hg) (by simp [firstL]; omega) (by simpa [nextL] using h2)
      refine ⟨i + 1, x, ?_, by simpa using e2, e3, e4⟩
      rw [cnt_cons_in s (t :: r) (a + 1) (by omega), e1]

/-- What Read answers: new memory with the entry's bytes. -/
def ReadOk (w : World) (s : ByteArray) (e : Ending) (W : World) : Prop :=
  ∃ w1, Below w.heap.size w w1 ∧ W = Lib.bytesWorld w1 5 s ∧ e = .returned (.tuple #[.slice (some ⟨w1.heap.size, 0, none⟩) s.size (grownCap w1 s.size 0 5), .int .i64 0])

set_option maxRecDepth 100000 in
set_option maxHeartbeats 1000000 in
theorem read_nil (a : Int) (w : World) : Calls Tryz.prog 21 #[.pointer none, .int .i64 a] w fun e W => e = .returned (.tuple #[.slice none 0 0, .int .i64 9]) ∧ W = w := by
  go_enter Tryz.func21, Tryz.ntmps21
  go_wp2_with fail
  go_ret2
  exact ⟨rfl, rfl⟩

set_option maxRecDepth 100000 in
set_option maxHeartbeats 4000000 in
theorem read_calls {R : Nat → Prop} {base lb db room : Nat} {p : ByteArray} {bk : Bool} {w : World} {v : Value} {l : List SV} (h : LogIn R base lb db p room bk w v l) (hg : goesOn (l.map (·.1))) (hl : l.length ≤ 4294967296)
    (hb : ∀ q ∈ l, q.1.next ≤ 9223372036854775807) (a i k : Nat) (x : SV) (y : En) (h1 : firstL (l.map (·.1)) ≤ a) (h2 : a < nextL (l.map (·.1)))
    (hc : cntL l (a + 1) = i + 1) (hx : l[i]? = some x) (hk : a = x.1.base + k) (hy : x.1.es[k]? = some y) (ha63 : a + 1 ≤ 9223372036854775807) :
    Calls Tryz.prog 21 #[.pointer (some ⟨lb, 0, none⟩), .int .i64 (a : Nat)] w (ReadOk w (txt y.bs)) := by
  have hil : i < l.length := (List.getElem?_eq_some_iff.1 hx).1
  have hkl : k < x.1.es.length := (List.getElem?_eq_some_iff.1 hy).1
  have hxm : x ∈ l := List.mem_of_getElem? hx
  obtain ⟨vA, vc, rfl⟩ := rowForm h.segs.1
  obtain ⟨xA, xc, hxv⟩ := rowForm (h.segs.2 x hxm)
  have C1 := Lib.hid (first_calls h hl)
  have C2 := Lib.hid (nxt_calls h hl hb)
  have HIN : Hid (∀ W, Below w.heap.size w W → LogIn R base lb db p room bk W (.slice vA l.length vc) l) := Lib.hid fun W hW => h.keep (fun b hb => hW.block b (h.lt b hb)) hW.size
  have CA : Hid (∀ W, Below w.heap.size w W → Calls Tryz.prog 47 #[.pointer (some ⟨lb, 0, none⟩), .int .i64 ((a + 1 : Nat) : Int)] W fun e W' => e = .returned (.int .i64 ((i + 1 : Nat) : Int)) ∧ Below W.heap.size W W') := Lib.hid fun W hW => by
    have := ahead_calls (HIN.out W hW) (by omega) (rising_of l hg) (a + 1) hl
    rwa [hc] at this
  obtain ⟨n, hn⟩ : ∃ n, l.length = n := ⟨_, rfl⟩
  obtain ⟨B, hB⟩ : ∃ B, x.1.base = B := ⟨_, rfl⟩
  obtain ⟨m, hm⟩ : ∃ m, x.1.es.length = m := ⟨_, rfl⟩
  obtain ⟨T, hT⟩ : ∃ T, txt y.bs = T := ⟨_, rfl⟩
  obtain ⟨F, hF⟩ : ∃ F, firstL (l.map (·.1)) = F := ⟨_, rfl⟩
  obtain ⟨N, hN⟩ : ∃ N, nextL (l.map (·.1)) = N := ⟨_, rfl⟩
  rw [hm] at hxv
  have hncap : n ≤ vc ∧ n ≤ 4294967296 := by
    obtain ⟨h3, _⟩ := h.segs.cell (i := i) rfl hil
    exact ⟨by omega, by omega⟩
  obtain ⟨g, o, hvA⟩ : ∃ g o, vA = some ⟨g, o, none⟩ := by
    obtain ⟨_, g, o, h3, _⟩ := h.segs.cell (i := i) rfl hil
    exact ⟨g, o, h3⟩
  subst hvA
  have HE0 := h.segs.2 x hxm
  rw [hxv] at HE0
  obtain ⟨ge, oe, rfl⟩ : ∃ ge oe, xA = some ⟨ge, oe, none⟩ := by
    obtain ⟨_, ge, oe, h3, _⟩ := HE0.cell hm hkl
    exact ⟨ge, oe, h3⟩
  have HCE : Hid (∀ W, Below w.heap.size w W → W.cell? ⟨lb, 3, none⟩ = some (.slice (some ⟨g, o, none⟩) n vc) ∧ W.cell? ⟨g, o + i * 2, none⟩ = some (.int .i64 (B : Nat)) ∧ W.cell? ⟨g, o + i * 2 + 1, none⟩ = some (.slice (some ⟨ge, oe, none⟩) m xc) ∧ W.cell? ⟨ge, oe + k * 2, none⟩ = some (.string T)) := Lib.hid fun W hW => by
    have hi := HIN.out W hW
    obtain ⟨⟨_, _, _, c3, _⟩, _⟩ := hi.block.cells
    obtain ⟨_, g', o', e1, _, c0, c1⟩ := hi.segs.cell (i := i) rfl hil
    simp only [Option.some.injEq, Addr.mk.injEq, and_true] at e1
    obtain ⟨rfl, rfl⟩ := e1
    have hxi : l[i] = x := (List.getElem?_eq_some_iff.1 hx).2
    rw [hxi] at c0 c1
    have hes := hi.segs.2 x hxm
    rw [hxv] at c1 hes
    obtain ⟨_, g2, o2, e2, _, d0, _⟩ := hes.cell hm hkl
    simp only [Option.some.injEq, Addr.mk.injEq, and_true] at e2
    obtain ⟨rfl, rfl⟩ := e2
    have hyk : x.1.es[k] = y := (List.getElem?_eq_some_iff.1 hy).2
    rw [hyk, hT] at d0
    rw [hn] at c3
    rw [hB] at c0
    exact ⟨c3, c0, c1, d0⟩
  rw [hF] at C1 h1
  rw [hN] at C2 h2
  rw [hB] at hk
  rw [hT]
  have i1 : ¬ (a : Int) < (F : Int) := by omega
  have i2 : ¬ (N : Int) ≤ (a : Int) := by omega
  have w1 : IntKind.i64.wrap ((a : Int) + 1) = ((a + 1 : Nat) : Int) := by rw [IntWalk.i64_in _ (by omega)]; omega
  have w2 : IntKind.i64.wrap (((i + 1 : Nat) : Int) - 1) = (i : Int) := by rw [IntWalk.i64_in _ (by omega)]; omega
  have w3 : IntKind.i64.wrap ((a : Int) - (B : Int)) = (k : Int) := by rw [IntWalk.i64_in _ (by omega)]; omega
  have j1 : (i : Int) < (n : Int) := by omega
  have j2 : 0 ≤ (i : Int) := by omega
  have j3 : (k : Int) < (m : Int) := by omega
  have j4 : 0 ≤ (k : Int) := by omega
  obtain ⟨a1, ha1⟩ : ∃ a1, a + 1 = a1 := ⟨_, rfl⟩
  obtain ⟨i1n, hi1⟩ : ∃ j, i + 1 = j := ⟨_, rfl⟩
  rw [ha1] at w1 CA
  rw [hi1] at w2 CA
  have HV := Lib.hid hncap
  clear h hg hl hb hc hx hk hy ha63 hn hB hm hT hF hN HE0 hxv hil hkl hxm h1 h2 ha1 hi1 HIN hncap
  have HR : Hid (Below w.heap.size w w) := Lib.hid (Below.refl _ _)
  go_enter Tryz.func21, Tryz.ntmps21
  go_wp2_with fail
  refine C1.out.mono ?_
  clear C1
  rintro e W ⟨rfl, rfl⟩
  go_wp2_with fail
  refine C2.out.mono ?_
  clear C2
  rintro e w0 ⟨rfl, hB0⟩
  have HB0 := Lib.hid hB0
  clear hB0 HR
  go_wp2_with fail
  refine wp_region_noPanic ?_
  refine wp_region_held_float (C := fun w' => Below W.heap.size W w') [0, 1, 2, 3, 4, 5, 6] [7, 8, 9, 10, 12] 11 12 (by kernel_rfl) (by kernel_rfl) (fun _ _ _ _ _ h => h) ?_ ?_
  · exact HB0.out.drew
  iterate 7
    refine heldI_step (v := ?_) rfl (by rfl) (fun w' hw' => ?_) ?_
    rotate_left
    · obtain ⟨k0, _, _, _⟩ := HCE.out w' hw'
      go_simp
      all_goals with_reducible rfl
    simp only [Act.put, List.getElem_toArray, List.getElem_cons_succ, List.getElem_cons_zero, List.setIfInBounds_toArray, List.set_cons_succ, List.set_cons_zero]
  refine heldI_nil ?_
  refine floatI_step rfl rfl ?_ ?_
  · try simp only [List.getElem_toArray, List.getElem_cons_succ, List.getElem_cons_zero]
    try simp only [List.getElem_toArray, List.getElem_cons_succ, List.getElem_cons_zero]
    go_wp2_with fail
    obtain ⟨q, hq⟩ : ∃ q, w0.heap.size = q := ⟨_, rfl⟩
    have hz : ((w0.alloc (.cells #[.int .i64 0, .slice none 0 0] 84)).drew).heap[q]? = some (.cells #[.int .i64 0, .slice none 0 0] 84 (0, 0)) := by rw [← hq]; exact heap_alloc_new w0 _
    have hzB : Below W.heap.size W ((w0.alloc (.cells #[.int .i64 0, .slice none 0 0] 84)).drew) := (HB0.out.alloc HB0.out.size _).drew
    have hqW : W.heap.size ≤ q := by rw [← hq]; exact HB0.out.size
    refine ⟨hzB, ?_⟩
    rw [hq]
    have HZ := Lib.hid hz
    have HZB := Lib.hid hzB
    have HQW := Lib.hid hqW
    clear hz hzB hqW hq
    generalize (w0.alloc (.cells #[.int .i64 0, .slice none 0 0] 84)).drew = wz at HZ HZB ⊢
    refine seqI_step rfl ?_
    try simp only [List.getElem_toArray, List.getElem_cons_succ, List.getElem_cons_zero]
    go_wp2_with (go_at_call 47; ((with_reducible refine (CA.out _ HZB.out).mono ?_); rintro e w2 ⟨rfl, hB2⟩))
    have HB2 := Lib.hid (Below.trans HZB.out (hB2.mono HZB.out.size))
    have HZ2 : Hid (w2.heap[q]? = some (.cells #[.int .i64 0, .slice none 0 0] 84 (0, 0))) := Lib.hid ((hB2.block q (Array.getElem?_eq_some_iff.1 HZ.out).1).trans HZ.out)
    refine ⟨HB2.out, ?_⟩
    clear hB2
    refine seqI_step rfl ?_
    try simp only [List.getElem_toArray, List.getElem_cons_succ, List.getElem_cons_zero]
    obtain ⟨k0, k1, k2, _⟩ := HCE.out w2 HB2.out
    go_wp2_with fail
    refine ⟨HB2.out, ?_⟩
    clear k0 k1 k2
    refine seqI_step rfl ?_
    try simp only [List.getElem_toArray, List.getElem_cons_succ, List.getElem_cons_zero]
    obtain ⟨k0, k1, k2, _⟩ := HCE.out w2 HB2.out
    go_wp2_with fail
    refine ⟨HB2.out, ?_⟩
    clear k0 k1 k2
    refine seqI_step rfl ?_
    try simp only [List.getElem_toArray, List.getElem_cons_succ, List.getElem_cons_zero]
    obtain ⟨k0, k1, k2, _⟩ := HCE.out w2 HB2.out
    go_wp2_with fail
    refine ⟨HB2.out, ?_⟩
    clear k0 k1 k2
    refine seqI_last rfl ?_
    try simp only [List.getElem_toArray, List.getElem_cons_succ, List.getElem_cons_zero]
    obtain ⟨z0, z1, z2, z3⟩ := two2 HZ2.out
    have hlq : q < w2.heap.size := (Array.getElem?_eq_some_iff.1 HZ2.out).1
    go_wp2_with fail
    refine NoPanic.normal ?_
    have hf2 : ((w2.setCell ⟨q, 0, none⟩ (.int .i64 (B : Nat))).setCell ⟨q, 1, none⟩ (.slice (some ⟨ge, oe, none⟩) m xc)).heap[q]? = some (.cells #[.int .i64 (B : Nat), .slice (some ⟨ge, oe, none⟩) m xc] 84 (0, 0)) := heap_set (heap_set HZ2.out 0 _) 1 _
    have hfB : Below W.heap.size W ((w2.setCell ⟨q, 0, none⟩ (.int .i64 (B : Nat))).setCell ⟨q, 1, none⟩ (.slice (some ⟨ge, oe, none⟩) m xc)) := (HB2.out.setCell HQW.out _).setCell HQW.out _
    clear z0 z1 z2 z3 hlq
    generalize (w2.setCell ⟨q, 0, none⟩ (.int .i64 (B : Nat))).setCell ⟨q, 1, none⟩ (.slice (some ⟨ge, oe, none⟩) m xc) = wf at hf2 hfB ⊢
    obtain ⟨_, _, _, k3⟩ := HCE.out wf hfB
    obtain ⟨p0, p1, _, _⟩ := two2 hf2
    have hlf : q < wf.heap.size := (Array.getElem?_eq_some_iff.1 hf2).1
    have hcv := Lib.run_convert_string_bytes (P := Tryz.prog) wf 9 29 5 T Tryz.underlying9 Tryz.underlying29 Tryz.underlying5
    have HCV := Lib.hid hcv
    have HFB := Lib.hid hfB
    clear hf2 hfB hcv
    go_wp2_with (refine wpList_exec_ran (o := ⟨some 41, _, _, _, _, _⟩) rfl (run_conv (HCV.out)) ?_)
    go_ret2
    exact ⟨wf, HFB.out, rfl, rfl⟩
  · try simp only [List.getElem_toArray, List.getElem_cons_succ, List.getElem_cons_zero]
    try simp only [List.getElem_toArray, List.getElem_cons_succ, List.getElem_cons_zero]
    go_wp2_with (go_at_call 47; ((with_reducible refine (CA.out _ HB0.out.drew).mono ?_); rintro e w2 ⟨rfl, hB2⟩))
    have HB2 := Lib.hid (Below.trans HB0.out.drew (hB2.mono HB0.out.drew.size))
    refine ⟨HB2.out, ?_⟩
    clear hB2
    refine floatI_step rfl rfl ?_ ?_
    · try simp only [List.getElem_toArray, List.getElem_cons_succ, List.getElem_cons_zero]
      try simp only [List.getElem_toArray, List.getElem_cons_succ, List.getElem_cons_zero]
      go_wp2_with fail
      obtain ⟨q, hq⟩ : ∃ q, w2.heap.size = q := ⟨_, rfl⟩
      have hz : (w2.alloc (.cells #[.int .i64 0, .slice none 0 0] 84)).heap[q]? = some (.cells #[.int .i64 0, .slice none 0 0] 84 (0, 0)) := by rw [← hq]; exact heap_alloc_new w2 _
      have hzB : Below W.heap.size W (w2.alloc (.cells #[.int .i64 0, .slice none 0 0] 84)) := HB2.out.alloc HB2.out.size _
      have hqW : W.heap.size ≤ q := by rw [← hq]; exact HB2.out.size
      refine ⟨hzB, ?_⟩
      rw [hq]
      have HZ := Lib.hid hz
      have HZB := Lib.hid hzB
      have HQW := Lib.hid hqW
      clear hz hzB hqW hq
      generalize w2.alloc (.cells #[.int .i64 0, .slice none 0 0] 84) = wz at HZ HZB ⊢
      refine seqI_step rfl ?_
      try simp only [List.getElem_toArray, List.getElem_cons_succ, List.getElem_cons_zero]
      obtain ⟨k0, k1, k2, _⟩ := HCE.out wz HZB.out
      go_wp2_with fail
      refine ⟨HZB.out, ?_⟩
      clear k0 k1 k2
      refine seqI_step rfl ?_
      try simp only [List.getElem_toArray, List.getElem_cons_succ, List.getElem_cons_zero]
      obtain ⟨k0, k1, k2, _⟩ := HCE.out wz HZB.out
      go_wp2_with fail
      refine ⟨HZB.out, ?_⟩
      clear k0 k1 k2
      refine seqI_step rfl ?_
      try simp only [List.getElem_toArray, List.getElem_cons_succ, List.getElem_cons_zero]
      obtain ⟨k0, k1, k2, _⟩ := HCE.out wz HZB.out
      go_wp2_with fail
      refine ⟨HZB.out, ?_⟩
      clear k0 k1 k2
      refine seqI_last rfl ?_
      try simp only [List.getElem_toArray, List.getElem_cons_succ, List.getElem_cons_zero]
      obtain ⟨z0, z1, z2, z3⟩ := two2 HZ.out
      have hlq : q < wz.heap.size := (Array.getElem?_eq_some_iff.1 HZ.out).1
      go_wp2_with fail
      refine NoPanic.normal ?_
      have hf2 : ((wz.setCell ⟨q, 0, none⟩ (.int .i64 (B : Nat))).setCell ⟨q, 1, none⟩ (.slice (some ⟨ge, oe, none⟩) m xc)).heap[q]? = some (.cells #[.int .i64 (B : Nat), .slice (some ⟨ge, oe, none⟩) m xc] 84 (0, 0)) := heap_set (heap_set HZ.out 0 _) 1 _
      have hfB : Below W.heap.size W ((wz.setCell ⟨q, 0, none⟩ (.int .i64 (B : Nat))).setCell ⟨q, 1, none⟩ (.slice (some ⟨ge, oe, none⟩) m xc)) := (HZB.out.setCell HQW.out _).setCell HQW.out _
      clear z0 z1 z2 z3 hlq
      generalize (wz.setCell ⟨q, 0, none⟩ (.int .i64 (B : Nat))).setCell ⟨q, 1, none⟩ (.slice (some ⟨ge, oe, none⟩) m xc) = wf at hf2 hfB ⊢
      obtain ⟨_, _, _, k3⟩ := HCE.out wf hfB
      obtain ⟨p0, p1, _, _⟩ := two2 hf2
      have hlf : q < wf.heap.size := (Array.getElem?_eq_some_iff.1 hf2).1
      have hcv := Lib.run_convert_string_bytes (P := Tryz.prog) wf 9 29 5 T Tryz.underlying9 Tryz.underlying29 Tryz.underlying5
      have HCV := Lib.hid hcv
      have HFB := Lib.hid hfB
      clear hf2 hfB hcv
      go_wp2_with (refine wpList_exec_ran (o := ⟨some 41, _, _, _, _, _⟩) rfl (run_conv (HCV.out)) ?_)
      go_ret2
      exact ⟨wf, HFB.out, rfl, rfl⟩
    · try simp only [List.getElem_toArray, List.getElem_cons_succ, List.getElem_cons_zero]
      try simp only [List.getElem_toArray, List.getElem_cons_succ, List.getElem_cons_zero]
      obtain ⟨k0, k1, k2, _⟩ := HCE.out w2 HB2.out
      go_wp2_with fail
      refine ⟨HB2.out, ?_⟩
      clear k0 k1 k2
      refine floatI_step rfl rfl ?_ ?_
      · try simp only [List.getElem_toArray, List.getElem_cons_succ, List.getElem_cons_zero]
        try simp only [List.getElem_toArray, List.getElem_cons_succ, List.getElem_cons_zero]
        go_wp2_with fail
        obtain ⟨q, hq⟩ : ∃ q, w2.heap.size = q := ⟨_, rfl⟩
        have hz : (w2.alloc (.cells #[.int .i64 0, .slice none 0 0] 84)).heap[q]? = some (.cells #[.int .i64 0, .slice none 0 0] 84 (0, 0)) := by rw [← hq]; exact heap_alloc_new w2 _
        have hzB : Below W.heap.size W (w2.alloc (.cells #[.int .i64 0, .slice none 0 0] 84)) := HB2.out.alloc HB2.out.size _
        have hqW : W.heap.size ≤ q := by rw [← hq]; exact HB2.out.size
        refine ⟨hzB, ?_⟩
        rw [hq]
        have HZ := Lib.hid hz
        have HZB := Lib.hid hzB
        have HQW := Lib.hid hqW
        clear hz hzB hqW hq
        generalize w2.alloc (.cells #[.int .i64 0, .slice none 0 0] 84) = wz at HZ HZB ⊢
        refine seqI_step rfl ?_
        try simp only [List.getElem_toArray, List.getElem_cons_succ, List.getElem_cons_zero]
        obtain ⟨k0, k1, k2, _⟩ := HCE.out wz HZB.out
        go_wp2_with fail
        refine ⟨HZB.out, ?_⟩
        clear k0 k1 k2
        refine seqI_step rfl ?_
        try simp only [List.getElem_toArray, List.getElem_cons_succ, List.getElem_cons_zero]
        obtain ⟨k0, k1, k2, _⟩ := HCE.out wz HZB.out
        go_wp2_with fail
        refine ⟨HZB.out, ?_⟩
        clear k0 k1 k2
        refine seqI_last rfl ?_
        try simp only [List.getElem_toArray, List.getElem_cons_succ, List.getElem_cons_zero]
        obtain ⟨z0, z1, z2, z3⟩ := two2 HZ.out
        have hlq : q < wz.heap.size := (Array.getElem?_eq_some_iff.1 HZ.out).1
        go_wp2_with fail
        refine NoPanic.normal ?_
        have hf2 : ((wz.setCell ⟨q, 0, none⟩ (.int .i64 (B : Nat))).setCell ⟨q, 1, none⟩ (.slice (some ⟨ge, oe, none⟩) m xc)).heap[q]? = some (.cells #[.int .i64 (B : Nat), .slice (some ⟨ge, oe, none⟩) m xc] 84 (0, 0)) := heap_set (heap_set HZ.out 0 _) 1 _
        have hfB : Below W.heap.size W ((wz.setCell ⟨q, 0, none⟩ (.int .i64 (B : Nat))).setCell ⟨q, 1, none⟩ (.slice (some ⟨ge, oe, none⟩) m xc)) := (HZB.out.setCell HQW.out _).setCell HQW.out _
        clear z0 z1 z2 z3 hlq
        generalize (wz.setCell ⟨q, 0, none⟩ (.int .i64 (B : Nat))).setCell ⟨q, 1, none⟩ (.slice (some ⟨ge, oe, none⟩) m xc) = wf at hf2 hfB ⊢
        obtain ⟨_, _, _, k3⟩ := HCE.out wf hfB
        obtain ⟨p0, p1, _, _⟩ := two2 hf2
        have hlf : q < wf.heap.size := (Array.getElem?_eq_some_iff.1 hf2).1
        have hcv := Lib.run_convert_string_bytes (P := Tryz.prog) wf 9 29 5 T Tryz.underlying9 Tryz.underlying29 Tryz.underlying5
        have HCV := Lib.hid hcv
        have HFB := Lib.hid hfB
        clear hf2 hfB hcv
        go_wp2_with (refine wpList_exec_ran (o := ⟨some 41, _, _, _, _, _⟩) rfl (run_conv (HCV.out)) ?_)
        go_ret2
        exact ⟨wf, HFB.out, rfl, rfl⟩
      · try simp only [List.getElem_toArray, List.getElem_cons_succ, List.getElem_cons_zero]
        try simp only [List.getElem_toArray, List.getElem_cons_succ, List.getElem_cons_zero]
        obtain ⟨k0, k1, k2, _⟩ := HCE.out w2 HB2.out
        go_wp2_with fail
        refine ⟨HB2.out, ?_⟩
        clear k0 k1 k2
        refine floatI_step rfl rfl ?_ ?_
        · try simp only [List.getElem_toArray, List.getElem_cons_succ, List.getElem_cons_zero]
          try simp only [List.getElem_toArray, List.getElem_cons_succ, List.getElem_cons_zero]
          go_wp2_with fail
          obtain ⟨q, hq⟩ : ∃ q, w2.heap.size = q := ⟨_, rfl⟩
          have hz : (w2.alloc (.cells #[.int .i64 0, .slice none 0 0] 84)).heap[q]? = some (.cells #[.int .i64 0, .slice none 0 0] 84 (0, 0)) := by rw [← hq]; exact heap_alloc_new w2 _
          have hzB : Below W.heap.size W (w2.alloc (.cells #[.int .i64 0, .slice none 0 0] 84)) := HB2.out.alloc HB2.out.size _
          have hqW : W.heap.size ≤ q := by rw [← hq]; exact HB2.out.size
          refine ⟨hzB, ?_⟩
          rw [hq]
          have HZ := Lib.hid hz
          have HZB := Lib.hid hzB
          have HQW := Lib.hid hqW
          clear hz hzB hqW hq
          generalize w2.alloc (.cells #[.int .i64 0, .slice none 0 0] 84) = wz at HZ HZB ⊢
          refine seqI_step rfl ?_
          try simp only [List.getElem_toArray, List.getElem_cons_succ, List.getElem_cons_zero]
          obtain ⟨k0, k1, k2, _⟩ := HCE.out wz HZB.out
          go_wp2_with fail
          refine ⟨HZB.out, ?_⟩
          clear k0 k1 k2
          refine seqI_last rfl ?_
          try simp only [List.getElem_toArray, List.getElem_cons_succ, List.getElem_cons_zero]
          obtain ⟨z0, z1, z2, z3⟩ := two2 HZ.out
          have hlq : q < wz.heap.size := (Array.getElem?_eq_some_iff.1 HZ.out).1
          go_wp2_with fail
          refine NoPanic.normal ?_
          have hf2 : ((wz.setCell ⟨q, 0, none⟩ (.int .i64 (B : Nat))).setCell ⟨q, 1, none⟩ (.slice (some ⟨ge, oe, none⟩) m xc)).heap[q]? = some (.cells #[.int .i64 (B : Nat), .slice (some ⟨ge, oe, none⟩) m xc] 84 (0, 0)) := heap_set (heap_set HZ.out 0 _) 1 _
          have hfB : Below W.heap.size W ((wz.setCell ⟨q, 0, none⟩ (.int .i64 (B : Nat))).setCell ⟨q, 1, none⟩ (.slice (some ⟨ge, oe, none⟩) m xc)) := (HZB.out.setCell HQW.out _).setCell HQW.out _
          clear z0 z1 z2 z3 hlq
          generalize (wz.setCell ⟨q, 0, none⟩ (.int .i64 (B : Nat))).setCell ⟨q, 1, none⟩ (.slice (some ⟨ge, oe, none⟩) m xc) = wf at hf2 hfB ⊢
          obtain ⟨_, _, _, k3⟩ := HCE.out wf hfB
          obtain ⟨p0, p1, _, _⟩ := two2 hf2
          have hlf : q < wf.heap.size := (Array.getElem?_eq_some_iff.1 hf2).1
          have hcv := Lib.run_convert_string_bytes (P := Tryz.prog) wf 9 29 5 T Tryz.underlying9 Tryz.underlying29 Tryz.underlying5
          have HCV := Lib.hid hcv
          have HFB := Lib.hid hfB
          clear hf2 hfB hcv
          go_wp2_with (refine wpList_exec_ran (o := ⟨some 41, _, _, _, _, _⟩) rfl (run_conv (HCV.out)) ?_)
          go_ret2
          exact ⟨wf, HFB.out, rfl, rfl⟩
        · try simp only [List.getElem_toArray, List.getElem_cons_succ, List.getElem_cons_zero]
          try simp only [List.getElem_toArray, List.getElem_cons_succ, List.getElem_cons_zero]
          obtain ⟨k0, k1, k2, _⟩ := HCE.out w2 HB2.out
          go_wp2_with fail
          refine ⟨HB2.out, ?_⟩
          clear k0 k1 k2
          refine floatI_last rfl ?_
          try simp only [List.getElem_toArray, List.getElem_cons_succ, List.getElem_cons_zero]
          go_wp2_with fail
          obtain ⟨q, hq⟩ : ∃ q, w2.heap.size = q := ⟨_, rfl⟩
          have hz : (w2.alloc (.cells #[.int .i64 0, .slice none 0 0] 84)).heap[q]? = some (.cells #[.int .i64 0, .slice none 0 0] 84 (0, 0)) := by rw [← hq]; exact heap_alloc_new w2 _
          have hzB : Below W.heap.size W (w2.alloc (.cells #[.int .i64 0, .slice none 0 0] 84)) := HB2.out.alloc HB2.out.size _
          have hqW : W.heap.size ≤ q := by rw [← hq]; exact HB2.out.size
          refine ⟨hzB, ?_⟩
          rw [hq]
          have HZ := Lib.hid hz
          have HZB := Lib.hid hzB
          have HQW := Lib.hid hqW
          clear hz hzB hqW hq
          generalize w2.alloc (.cells #[.int .i64 0, .slice none 0 0] 84) = wz at HZ HZB ⊢
          refine seqI_last rfl ?_
          try simp only [List.getElem_toArray, List.getElem_cons_succ, List.getElem_cons_zero]
          obtain ⟨z0, z1, z2, z3⟩ := two2 HZ.out
          have hlq : q < wz.heap.size := (Array.getElem?_eq_some_iff.1 HZ.out).1
          go_wp2_with fail
          refine NoPanic.normal ?_
          have hf2 : ((wz.setCell ⟨q, 0, none⟩ (.int .i64 (B : Nat))).setCell ⟨q, 1, none⟩ (.slice (some ⟨ge, oe, none⟩) m xc)).heap[q]? = some (.cells #[.int .i64 (B : Nat), .slice (some ⟨ge, oe, none⟩) m xc] 84 (0, 0)) := heap_set (heap_set HZ.out 0 _) 1 _
          have hfB : Below W.heap.size W ((wz.setCell ⟨q, 0, none⟩ (.int .i64 (B : Nat))).setCell ⟨q, 1, none⟩ (.slice (some ⟨ge, oe, none⟩) m xc)) := (HZB.out.setCell HQW.out _).setCell HQW.out _
          clear z0 z1 z2 z3 hlq
          generalize (wz.setCell ⟨q, 0, none⟩ (.int .i64 (B : Nat))).setCell ⟨q, 1, none⟩ (.slice (some ⟨ge, oe, none⟩) m xc) = wf at hf2 hfB ⊢
          obtain ⟨_, _, _, k3⟩ := HCE.out wf hfB
          obtain ⟨p0, p1, _, _⟩ := two2 hf2
          have hlf : q < wf.heap.size := (Array.getElem?_eq_some_iff.1 hf2).1
          have hcv := Lib.run_convert_string_bytes (P := Tryz.prog) wf 9 29 5 T Tryz.underlying9 Tryz.underlying29 Tryz.underlying5
          have HCV := Lib.hid hcv
          have HFB := Lib.hid hfB
          clear hf2 hfB hcv
          go_wp2_with (refine wpList_exec_ran (o := ⟨some 41, _, _, _, _, _⟩) rfl (run_conv (HCV.out)) ?_)
          go_ret2
          exact ⟨wf, HFB.out, rfl, rfl⟩

end Go.Proofs.YtnhkpemajknfnaaGreatDoor.Seglog

/-
  Contract of the log's sync of one segment.
-/
namespace Go.Proofs.YtnhkpemajknfnaaGreatDoor.Seglog
open Go Go.RowKit Go.Lib Go.Proofs.YtnhkpemajknfnaaGreatDoor.Law Go.Proofs.YtnhkpemajknfnaaGreatDoor.Disk

theorem Dx.less {Fr Fr' : Nat → Prop} {w W : World} {db : Nat} {D : DS} (h : Dx Fr' w db D W) (hl : ∀ k, Fr k → Fr' k) : Dx Fr w db D W := by
  obtain ⟨O, h1, h2, h3, h4, h5⟩ := h
  exact ⟨O, h1, h2, h3, h4, fun k hk => h5 k (hl k hk)⟩
theorem SameOn.less {Fr Fr' : Nat → Prop} {W W' : World} (h : SameOn Fr' W W') (hl : ∀ k, Fr k → Fr' k) : SameOn Fr W W' := ⟨fun k hk => h.1 k (hl k hk), h.2⟩
theorem SameOn.trans {Fr : Nat → Prop} {a b c : World} (h : SameOn Fr a b) (k : SameOn Fr b c) : SameOn Fr a c := ⟨fun i hi => (k.1 i hi).trans (h.1 i hi), Nat.le_trans h.2 k.2⟩
theorem Dx.in {Fr : Nat → Prop} {w W : World} {db : Nat} {D : DS} (h : Dx Fr w db D W) {k : Nat} (hk : Fr k) : w.heap.size ≤ k ∧ k < W.heap.size := by
  obtain ⟨O, _, _, _, _, h5⟩ := h
  exact ⟨(h5 k hk).1, (h5 k hk).2.1⟩
/-- The table of powers, as the law found it. -/
abbrev Tab10 (w : World) : Prop := Lib.TabBelow Tryz.prog w.heap.size w "internal/strconv.uint64pow10" .u64 Lib.pow10Tab
theorem Tab10.below {w W : World} (h : Tab10 w) (hB : Below w.heap.size w W) : Tab10 W := fun W0 h0 => h W0 (hB.trans (h0.mono hB.size))

/-- What a call on a file of the disk leaves. -/
def OnDisk (Fr : Nat → Prop) (w W : World) (db : Nat) (D' : DS) (n : Nat) (e : Ending) (W' : World) : Prop := e = .returned (.int .i64 (n : Nat)) ∧ Dx Fr w db D' W' ∧ SameOn Fr W W'

set_option maxRecDepth 100000 in
set_option maxHeartbeats 4000000 in
theorem syncS_calls {Fr : Nat → Prop} {w W : World} {db lb room b n c : Nat} {D : DS} {p : ByteArray} {v : Value} {bk : Bool} {A : Option Addr} (hD : Dx Fr w db D W) (hL : LB W lb db p room v bk) (hlb : Fr lb) (hp : p.size ≤ 13) (hb : b ≤ 4611686018427387904) (htab : Tab10 w) :
    Calls Tryz.prog 70 #[.pointer (some ⟨lb, 0, none⟩), segV b A n c] W (OnDisk Fr w W db (D.sync (fileN p b)) (D.syncN (fileN p b))) := by
  obtain ⟨q, hq⟩ : ∃ q, W.heap.size = q := ⟨_, rfl⟩
  have hB0 : Below W.heap.size W (W.alloc (.cells #[.int .i64 (b : Nat), .slice A n c] 84)) := (Below.refl _ _).alloc (Nat.le_refl _) _
  have hX0 : (W.alloc (.cells #[.int .i64 (b : Nat), .slice A n c] 84)).heap[q]? = some (.cells #[.int .i64 (b : Nat), .slice A n c] 84 (0, 0)) := by rw [← hq]; exact heap_alloc_new W _
  have hS0 : (W.alloc (.cells #[.int .i64 (b : Nat), .slice A n c] 84)).heap.size = q + 1 := by simp [hq]
  have hdec := dec_length b 18 (by omega)
  have hsz := file_size p b
  obtain ⟨N, hN⟩ : ∃ N, fileN p b = N := ⟨_, rfl⟩
  have CF : Hid (∀ W0, Below W.heap.size W W0 → Calls Tryz.prog 44 #[.pointer (some ⟨lb, 0, none⟩), segV b A n c] W0 fun e W' => e = .returned (.string N) ∧ Below W0.heap.size W0 W') := Lib.hid fun W0 h0 => by
    have h := file_calls lb db room b p v (.slice A n c) bk W0 (hL.below h0) (by omega) (by omega) (Tab10.below (Tab10.below htab hD.low) h0)
    rwa [hN] at h
  have CD : Hid (∀ W1, Below W.heap.size W W1 → q < W1.heap.size → Calls Tryz.prog 10 #[.pointer (some ⟨db, 0, none⟩), .string N] W1 fun e W2 => e = .returned (.int .i64 (D.syncN N : Nat)) ∧ Hid (OnDisk Fr w W db (D.sync N) (D.syncN N) e W2) ∧ W2.heap[lb]? = W1.heap[lb]? ∧ W2.heap[q]? = W1.heap[q]?) := Lib.hid fun W1 h1 hq1 => by
    have hsN : N.size ≤ 9223372036854775807 := by rw [← hN, hsz]; omega
    refine ((hD.add h1).sync N hsN).mono ?_
    rintro e W2 ⟨rfl, h2, h3⟩
    exact ⟨rfl, Lib.hid ⟨rfl, Dx.less h2 (fun k hk => .inl hk), SameOn.trans (hD.sameOn h1) (SameOn.less h3 (fun k hk => .inl hk))⟩, h3.1 lb (.inl hlb), h3.1 q (.inr ⟨by omega, hq1⟩)⟩
  have hlt := hL.lt
  have HL := Lib.hid hL
  have HB0 := Lib.hid hB0
  have HX0 := Lib.hid hX0
  have HS0 := Lib.hid hS0
  obtain ⟨M, hM⟩ : ∃ M, D.syncN N = M := ⟨_, rfl⟩
  rw [hN, hM]
  rw [hM] at CD
  clear hB0 hX0 hS0 hD hL hlb hp hb htab hdec hsz hN hM
  go_enter Tryz.func70, Tryz.ntmps70
  go_wp2_with fail
  have hB0 := HB0.out
  have hX0 := HX0.out
  have hS0 := HS0.out
  clear HB0 HX0 HS0
  generalize W.alloc (.cells #[.int .i64 (b : Nat), .slice A n c] 84) = w0 at hB0 hX0 hS0 ⊢
  have HB0 := Lib.hid hB0
  have HX0 := Lib.hid hX0
  have HS0 := Lib.hid hS0
  have HLB : Hid (∀ W' : World, W'.heap[lb]? = W.heap[lb]? ∧ W'.heap[q]? = w0.heap[q]? → W'.cell? ⟨lb, 0, none⟩ = some (.pointer (some ⟨db, 0, none⟩)) ∧ W'.cell? ⟨q, 0, none⟩ = some (.int .i64 (b : Nat)) ∧ W'.cell? ⟨q, 1, none⟩ = some (.slice A n c)) := Lib.hid fun W' h => by
    have h1 : LB W' lb db p room v bk := h.1.trans HL.out
    exact ⟨h1.cells.1.1, (two2 (h.2.trans HX0.out)).1, (two2 (h.2.trans HX0.out)).2.1⟩
  have HC0 : Hid (w0.drew.heap[lb]? = W.heap[lb]? ∧ w0.drew.heap[q]? = w0.heap[q]?) := Lib.hid ⟨hB0.block lb hlt, rfl⟩
  clear hB0 hX0 hS0 hq
  refine wp_region_noPanic ?_
  refine wp_region_held_tail (C := fun w' => w'.heap[lb]? = W.heap[lb]? ∧ w'.heap[q]? = w0.heap[q]?) [0, 1, 2, 3, 4, 5] [6, 7, 8] 8 (by kernel_rfl) (by kernel_rfl) (fun _ _ _ _ _ h => h) ?_ ?_
  · exact HC0.out
  iterate 6
    refine heldI_step (v := ?_) rfl (by rfl) (fun w' hw' => ?_) ?_
    rotate_left
    · obtain ⟨k0, k1, k2⟩ := HLB.out w' hw'
      go_simp
      all_goals with_reducible rfl
    simp only [Act.put, List.getElem_toArray, List.getElem_cons_succ, List.getElem_cons_zero, List.setIfInBounds_toArray, List.set_cons_succ, List.set_cons_zero]
  refine heldI_nil ?_
  refine seqI_step rfl ?_
  try simp only [List.getElem_toArray, List.getElem_cons_succ, List.getElem_cons_zero]
  go_wp2_with (go_at_call 44; ((with_reducible refine (CF.out _ HB0.out.drew).mono ?_); rintro e W1 ⟨rfl, hB1⟩))
  have H1 : Hid (Below W.heap.size W W1) := Lib.hid (HB0.out.drew.trans (hB1.mono HB0.out.size))
  have HC1 : Hid (W1.heap[lb]? = W.heap[lb]? ∧ W1.heap[q]? = w0.heap[q]?) := Lib.hid ⟨H1.out.block lb hlt, hB1.block q (by have := HS0.out; show q < w0.heap.size; omega)⟩
  have hq1 : q < W1.heap.size := by have h1 := hB1.size; have h2 := HS0.out; have h3 : w0.heap.size ≤ W1.heap.size := h1; omega
  have CD1 := Lib.hid (CD.out W1 H1.out hq1)
  refine ⟨HC1.out, ?_⟩
  clear hB1 CD CF hq1
  refine seqI_step rfl ?_
  try simp only [List.getElem_toArray, List.getElem_cons_succ, List.getElem_cons_zero]
  go_wp2_with (go_at_call 10; ((with_reducible refine CD1.out.mono ?_); rintro e W2 ⟨rfl, hO, hl2, hq2⟩))
  have HC2 : Hid (W2.heap[lb]? = W.heap[lb]? ∧ W2.heap[q]? = w0.heap[q]?) := Lib.hid ⟨hl2.trans HC1.out.1, hq2.trans HC1.out.2⟩
  refine ⟨HC2.out, ?_⟩
  clear hl2 hq2 CD1
  refine seqI_last rfl ?_
  try simp only [List.getElem_toArray, List.getElem_cons_succ, List.getElem_cons_zero]
  go_wp2_with fail
  refine NoPanic.normal ?_
  go_wp2_with fail
  go_ret
  exact hO.out

end Go.Proofs.YtnhkpemajknfnaaGreatDoor.Seglog

/-
  Contract of the log's remove: a segment's file goes, and that is made durable.
-/
namespace Go.Proofs.YtnhkpemajknfnaaGreatDoor.Seglog
open Go Go.RowKit Go.Lib Go.Proofs.YtnhkpemajknfnaaGreatDoor.Law Go.Proofs.YtnhkpemajknfnaaGreatDoor.Disk

theorem remove_dx {Fr : Nat → Prop} {w W : World} {db : Nat} {D : DS} (h : Dx Fr w db D W) (hmade : D.made ≤ 4294967296) (s : ByteArray) (hs63 : s.size ≤ 9223372036854775807) :
    Calls Tryz.prog 88 #[.pointer (some ⟨db, 0, none⟩), .string s] W (OnDisk Fr w W db (D.remove s) (D.removeN s)) := by
  obtain ⟨O, h1, h2, h3, h4, h5⟩ := h
  refine (removeD_calls W O db D h1 h4 hmade s hs63).mono ?_
  rintro e W' ⟨rfl, O', h6, h7⟩
  exact ⟨rfl, Dx.past h2 h3 h5 h7 h6 (h4.remove s)⟩

/-- The disk behind a segment's removal, and the answer. -/
def DS.gone (D : DS) (s : ByteArray) : DS := if D.removeN s = 0 then (D.remove s).sync s else D
def DS.goneN (D : DS) (s : ByteArray) : Nat := if D.removeN s = 0 then (D.remove s).syncN s else D.removeN s

set_option maxRecDepth 100000 in
set_option maxHeartbeats 4000000 in
theorem removeS_calls {Fr : Nat → Prop} {w W : World} {db lb room b n c : Nat} {D : DS} {p : ByteArray} {v : Value} {bk : Bool} {A : Option Addr} (hD : Dx Fr w db D W) (hmade : D.made ≤ 4294967296) (hL : LB W lb db p room v bk) (hlb : Fr lb) (hp : p.size ≤ 13) (hb : b ≤ 4611686018427387904) (htab : Tab10 w) :
    Calls Tryz.prog 76 #[.pointer (some ⟨lb, 0, none⟩), segV b A n c] W (OnDisk Fr w W db (DS.gone D (fileN p b)) (DS.goneN D (fileN p b))) := by
  obtain ⟨q, hq⟩ : ∃ q, W.heap.size = q := ⟨_, rfl⟩
  have hB0 : Below W.heap.size W (W.alloc (.cells #[.int .i64 (b : Nat), .slice A n c] 84)) := (Below.refl _ _).alloc (Nat.le_refl _) _
  have hX0 : (W.alloc (.cells #[.int .i64 (b : Nat), .slice A n c] 84)).heap[q]? = some (.cells #[.int .i64 (b : Nat), .slice A n c] 84 (0, 0)) := by rw [← hq]; exact heap_alloc_new W _
  have hS0 : (W.alloc (.cells #[.int .i64 (b : Nat), .slice A n c] 84)).heap.size = q + 1 := by simp [hq]
  have hdec := dec_length b 18 (by omega)
  have hsz := file_size p b
  obtain ⟨N, hN⟩ : ∃ N, fileN p b = N := ⟨_, rfl⟩
  have CF : Hid (∀ W0, Below W.heap.size W W0 → Calls Tryz.prog 44 #[.pointer (some ⟨lb, 0, none⟩), segV b A n c] W0 fun e W' => e = .returned (.string N) ∧ Below W0.heap.size W0 W') := Lib.hid fun W0 h0 => by
    have h := file_calls lb db room b p v (.slice A n c) bk W0 (hL.below h0) (by omega) (by omega) (Tab10.below (Tab10.below htab hD.low) h0)
    rwa [hN] at h
  have CD : Hid (∀ W1, Below W.heap.size W W1 → q < W1.heap.size → Calls Tryz.prog 88 #[.pointer (some ⟨db, 0, none⟩), .string N] W1 fun e W2 => e = .returned (.int .i64 (D.removeN N : Nat)) ∧ Hid (Dx (fun k => Fr k ∨ (W.heap.size ≤ k ∧ k < W1.heap.size)) w db (D.remove N) W2 ∧ SameOn Fr W W2) ∧ W2.heap[lb]? = W1.heap[lb]? ∧ W2.heap[q]? = W1.heap[q]? ∧ q < W2.heap.size) := Lib.hid fun W1 h1 hq1 => by
    have hsN : N.size ≤ 9223372036854775807 := by rw [← hN, hsz]; omega
    refine (remove_dx (hD.add h1) hmade N hsN).mono ?_
    rintro e W2 ⟨rfl, h2, h3⟩
    exact ⟨rfl, Lib.hid ⟨h2, SameOn.trans (hD.sameOn h1) (SameOn.less h3 (fun k hk => .inl hk))⟩, h3.1 lb (.inl hlb), h3.1 q (.inr ⟨by omega, hq1⟩), Nat.lt_of_lt_of_le hq1 h3.2⟩
  have CS : Hid (∀ W1 W2, Below W.heap.size W W1 → q < W1.heap.size → Dx (fun k => Fr k ∨ (W.heap.size ≤ k ∧ k < W1.heap.size)) w db (D.remove N) W2 ∧ SameOn Fr W W2 → W2.heap[lb]? = W.heap[lb]? → Calls Tryz.prog 70 #[.pointer (some ⟨lb, 0, none⟩), segV b A n c] W2 fun e W3 => e = .returned (.int .i64 ((D.remove N).syncN N : Nat)) ∧ Hid (OnDisk Fr w W db ((D.remove N).sync N) ((D.remove N).syncN N) e W3)) := Lib.hid fun W1 W2 h1 hq1 h2 hl2 => by
    have h := syncS_calls (n := n) (c := c) (A := A) (b := b) h2.1 (hl2.trans hL : LB W2 lb db p room v bk) (.inl hlb) hp hb htab
    rw [hN] at h
    refine h.mono ?_
    rintro e W3 ⟨rfl, h3, h4⟩
    exact ⟨rfl, Lib.hid ⟨rfl, Dx.less h3 (fun k hk => .inl hk), SameOn.trans h2.2 (SameOn.less h4 (fun k hk => .inl hk))⟩⟩
  have hlt := hL.lt
  have HL := Lib.hid hL
  have HB0 := Lib.hid hB0
  have HX0 := Lib.hid hX0
  have HS0 := Lib.hid hS0
  rw [hN]
  obtain ⟨M, hM⟩ : ∃ M, D.removeN N = M := ⟨_, rfl⟩
  obtain ⟨DG, hDG⟩ : ∃ x, DS.gone D N = x := ⟨_, rfl⟩
  obtain ⟨GN, hGN⟩ : ∃ x, DS.goneN D N = x := ⟨_, rfl⟩
  have H0 : Hid (M = 0 → DG = (D.remove N).sync N ∧ GN = (D.remove N).syncN N) := Lib.hid fun h => ⟨by rw [← hDG, DS.gone, hM, if_pos h], by rw [← hGN, DS.goneN, hM, if_pos h]⟩
  have HRD : Hid (M ≠ 0 → D.remove N = D ∧ D = DG ∧ M = GN) := Lib.hid fun h => ⟨by unfold DS.remove; rw [if_neg (by rw [hM]; exact h)], by rw [← hDG, DS.gone, hM, if_neg h], by rw [← hGN, DS.goneN, hM, if_neg h]⟩
  rw [hDG, hGN]
  clear hDG hGN
  rw [hM] at CD
  clear hB0 hX0 hS0 hD hmade hL hlb hp hb htab hdec hsz hN hM
  go_enter Tryz.func76, Tryz.ntmps76
  go_wp2_with fail
  have hB0 := HB0.out
  have hX0 := HX0.out
  have hS0 := HS0.out
  clear HB0 HX0 HS0
  generalize W.alloc (.cells #[.int .i64 (b : Nat), .slice A n c] 84) = w0 at hB0 hX0 hS0 ⊢
  have HB0 := Lib.hid hB0
  have HX0 := Lib.hid hX0
  have HS0 := Lib.hid hS0
  have HLB : Hid (∀ W' : World, W'.heap[lb]? = W.heap[lb]? ∧ W'.heap[q]? = w0.heap[q]? → W'.cell? ⟨lb, 0, none⟩ = some (.pointer (some ⟨db, 0, none⟩)) ∧ W'.cell? ⟨q, 0, none⟩ = some (.int .i64 (b : Nat)) ∧ W'.cell? ⟨q, 1, none⟩ = some (.slice A n c)) := Lib.hid fun W' h => by
    have h1 : LB W' lb db p room v bk := h.1.trans HL.out
    exact ⟨h1.cells.1.1, (two2 (h.2.trans HX0.out)).1, (two2 (h.2.trans HX0.out)).2.1⟩
  have HC0 : Hid (w0.drew.heap[lb]? = W.heap[lb]? ∧ w0.drew.heap[q]? = w0.heap[q]?) := Lib.hid ⟨hB0.block lb hlt, rfl⟩
  clear hB0 hX0 hS0 hq
  refine wp_region_noPanic ?_
  refine wp_region_held_tail (C := fun w' => w'.heap[lb]? = W.heap[lb]? ∧ w'.heap[q]? = w0.heap[q]?) [0, 1, 2, 3, 4, 5] [6, 7, 8] 8 (by kernel_rfl) (by kernel_rfl) (fun _ _ _ _ _ h => h) ?_ ?_
  · exact HC0.out
  iterate 6
    refine heldI_step (v := ?_) rfl (by rfl) (fun w' hw' => ?_) ?_
    rotate_left
    · obtain ⟨k0, k1, k2⟩ := HLB.out w' hw'
      go_simp
      all_goals with_reducible rfl
    simp only [Act.put, List.getElem_toArray, List.getElem_cons_succ, List.getElem_cons_zero, List.setIfInBounds_toArray, List.set_cons_succ, List.set_cons_zero]
  refine heldI_nil ?_
  refine seqI_step rfl ?_
  try simp only [List.getElem_toArray, List.getElem_cons_succ, List.getElem_cons_zero]
  go_wp2_with (go_at_call 44; ((with_reducible refine (CF.out _ HB0.out.drew).mono ?_); rintro e W1 ⟨rfl, hB1⟩))
  have H1 : Hid (Below W.heap.size W W1) := Lib.hid (HB0.out.drew.trans (hB1.mono HB0.out.size))
  have HC1 : Hid (W1.heap[lb]? = W.heap[lb]? ∧ W1.heap[q]? = w0.heap[q]?) := Lib.hid ⟨H1.out.block lb hlt, hB1.block q (by have := HS0.out; show q < w0.heap.size; omega)⟩
  have hq1 : q < W1.heap.size := by have h1 := hB1.size; have h2 := HS0.out; have h3 : w0.heap.size ≤ W1.heap.size := h1; omega
  have CD1 := Lib.hid (CD.out W1 H1.out hq1)
  refine ⟨HC1.out, ?_⟩
  have HQ1 := Lib.hid hq1
  clear hB1 CD CF hq1
  refine seqI_step rfl ?_
  try simp only [List.getElem_toArray, List.getElem_cons_succ, List.getElem_cons_zero]
  go_wp2_with (go_at_call 88; ((with_reducible refine CD1.out.mono ?_); rintro e W2 ⟨rfl, hO, hl2, hq2, hqs⟩))
  have HC2 : Hid (W2.heap[lb]? = W.heap[lb]? ∧ W2.heap[q]? = w0.heap[q]?) := Lib.hid ⟨hl2.trans HC1.out.1, hq2.trans HC1.out.2⟩
  refine ⟨HC2.out, ?_⟩
  clear hl2 hq2 CD1
  refine seqI_last rfl ?_
  try simp only [List.getElem_toArray, List.getElem_cons_succ, List.getElem_cons_zero]
  go_wp2_with fail
  refine NoPanic.normal ?_
  by_cases h0 : M = 0
  · obtain ⟨e1, e2⟩ := H0.out h0
    subst h0 e1 e2
    clear H0 HRD
    have CS2 := Lib.hid (CS.out W1 W2 H1.out HQ1.out hO.out HC2.out.1)
    obtain ⟨_, k1, k2⟩ := HLB.out W2 HC2.out
    go_wp2_with fail
    refine CS2.out.mono ?_
    rintro e W3 ⟨rfl, hO3⟩
    clear CS2 CS
    go_wp2_with fail
    go_ret
    exact hO3.out
  · obtain ⟨e0, e1, e2⟩ := HRD.out h0
    subst e1 e2
    have h0I : ¬ (M : Int) = 0 := by omega
    have HO2 : Hid (OnDisk Fr w W db D M (.returned (.int .i64 (M : Nat))) W2) := Lib.hid (by
      have h := hO.out
      rw [e0] at h
      exact ⟨rfl, Dx.less h.1 (fun k hk => .inl hk), h.2⟩)
    clear CS hO h0 H0 HRD e0
    go_wp2_with fail
    go_ret
    exact HO2.out

end Go.Proofs.YtnhkpemajknfnaaGreatDoor.Seglog
