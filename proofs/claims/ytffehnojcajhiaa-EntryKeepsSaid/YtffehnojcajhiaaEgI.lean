/-
  Contract of read for items that there are.
-/
import Derived.Test.YtffehnojcajhiaaEgH
namespace Go.Proofs.Ytffehnojcajhiaa.Wire.Entry
open Go Go.RowKit Go.Proofs.Ytffehnojcajhiaa.Law

set_option maxRecDepth 100000 in
set_option maxHeartbeats 8000000 in
theorem read_cons (x : Item) (f : List Item) (hs : nodesL (x :: f) ≤ 4096) (v : Value) (w : World) (hI : Old w.heap.size w v (x :: f)) : Calls Try.prog 25 #[v] w (RetEnt w (rdE (x :: f))) := by
  obtain ⟨A, cap, rfl, hcap0⟩ := hI.form
  have hsf : nodesL f ≤ 4096 := by rw [nodesL] at hs; omega
  obtain ⟨ro, hro⟩ : ∃ r, rdE (x :: f) = r := ⟨_, rfl⟩
  rw [hro]
  obtain ⟨n, hn⟩ : ∃ n, f.length = n := ⟨_, rfl⟩
  rw [List.length_cons, hn] at hI hcap0 ⊢
  have hn2 : n ≤ 4096 := by have := length_le_nodes f; omega
  obtain ⟨ib, io, rfl, hib, hcells⟩ := hI.at (by omega)
  obtain ⟨ux, ⟨a0, a1, a2, a3⟩, hix⟩ := hcells 0 x rfl
  simp only [Nat.zero_mul, Nat.add_zero] at a0 a1 a2 a3
  obtain ⟨Ax, cx, rfl, _⟩ := hix.form
  obtain ⟨lx, hlx⟩ : ∃ l, x.kids.length = l := ⟨_, rfl⟩
  rw [hlx] at a3
  have htl := Items.tail hI
  obtain ⟨b, hb⟩ : ∃ b, w.heap.size = b := ⟨_, rfl⟩
  have hbe : ((w.alloc Z8).alloc (.cells #[.int .i64 x.n, .int .i64 0, .int .i64 0, .int .i64 0, .string ⟨#[]⟩, .int .u32 0, .slice none 0 0, .int .i64 0] 29)).heap[b + 1]? = some (.cells #[.int .i64 x.n, .int .i64 0, .int .i64 0, .int .i64 0, .string ⟨#[]⟩, .int .u32 0, .slice none 0 0, .int .i64 0] 29) := by
    have := heap_alloc_new (w.alloc Z8) (.cells #[.int .i64 x.n, .int .i64 0, .int .i64 0, .int .i64 0, .string ⟨#[]⟩, .int .u32 0, .slice none 0 0, .int .i64 0] 29)
    rwa [World.size_alloc, hb] at this
  have hbr : ((w.alloc Z8).alloc (.cells #[.int .i64 x.n, .int .i64 0, .int .i64 0, .int .i64 0, .string ⟨#[]⟩, .int .u32 0, .slice none 0 0, .int .i64 0] 29)).heap[b]? = some Z8 := by
    rw [← hb]
    exact ((Below.refl _ _).alloc (Nat.le_refl _) _ |>.block w.heap.size (by simp)).trans (heap_alloc_new w _)
  have hB : Below b w ((w.alloc Z8).alloc (.cells #[.int .i64 x.n, .int .i64 0, .int .i64 0, .int .i64 0, .string ⟨#[]⟩, .int .u32 0, .slice none 0 0, .int .i64 0] 29)) := by
    rw [← hb]
    exact ((Below.refl _ _).alloc (Nat.le_refl _) _).alloc (by simp) _
  have hsz : ((w.alloc Z8).alloc (.cells #[.int .i64 x.n, .int .i64 0, .int .i64 0, .int .i64 0, .string ⟨#[]⟩, .int .u32 0, .slice none 0 0, .int .i64 0] 29)).heap.size = b + 2 := by simp [hb]
  have HBE := Lib.hid hbe
  have HBR := Lib.hid hbr
  have HB := Lib.hid hB
  have HSZ := Lib.hid hsz
  have HTL := Lib.hid htl
  have HRO := Lib.hid hro
  have HBB := Lib.hid hb
  have HN := Lib.hid hn
  have HSF := Lib.hid hsf
  have hib2 : ib < b := by omega
  have hnb : ((n : Int) + 1 == 0) = false := by rw [beq_eq_false_iff_ne]; omega
  have hcI : 1 ≤ (cap : Int) := by omega
  clear hbe hbr hB hsz htl hro hcells hix hI hlx hs hsf hn
  go_enter Try.func25, Try.ntmps25
  go_upto_region 4 with fail
  have hbe := HBE.out
  have hbr := HBR.out
  have hB := HB.out
  have hsz := HSZ.out
  clear HBE HBR HB HSZ
  generalize (w.alloc Z8).alloc (.cells #[.int .i64 x.n, .int .i64 0, .int .i64 0, .int .i64 0, .string ⟨#[]⟩, .int .u32 0, .slice none 0 0, .int .i64 0] 29) = w1 at hbe hbr hB hsz ⊢
  have HBE := Lib.hid hbe
  have HBR := Lib.hid hbr
  have HB := Lib.hid hB
  have HSZ := Lib.hid hsz
  obtain ⟨⟨c0, _, _, _, _, _, _, _⟩, _⟩ := box8 hbe
  clear hbe hbr hB hsz a0 a1 a2 a3 hib
  by_cases hcap : cap = 1
  · obtain rfl : n = 0 := by omega
    subst hcap
    have HF : Hid (Old w.heap.size w (.slice (some ⟨ib, io, none⟩) 0 0) f) := Lib.hid (.nil (some ⟨ib, io, none⟩) 0 f (fun h => by cases h) (List.eq_nil_of_length_eq_zero HN.out))
    go_upto_region 5 with fail
    by_cases k1 : x.n = 1
    · have hk1 : ((x.n : Int) == 1) = true := beq_iff_eq.2 k1
      have hro : ro = (rdRec f).map fun r => ⟨1, r, [], 0⟩ := by rw [← HRO.out, rdE, if_pos k1]
      have HRR := Lib.hid hro
      have CR := Lib.hid (readRecord_calls f (by rw [HN.out]; omega) _ w1 (Items.mono (fun k hk => by have := HSZ.out; have := HBB.out; omega) (Items.low (by rw [HBB.out]; exact HB.out) HF.out)))
      have HK := Lib.hid k1
      clear k1 hro
      go_wp2_with fail
      refine CR.out.mono ?_
      rintro e w2 ⟨r, rfl, hr, hB2⟩
      have HRL := Lib.hid hr
      clear hr
      have hs2 : b + 2 ≤ w2.heap.size := by have := hB2.size; have := HSZ.out; omega
      have hbe2 := (hB2.block (b + 1) (by have := HSZ.out; omega)).trans HBE.out
      have hbr2 := (hB2.block b (by have := HSZ.out; omega)).trans HBR.out
      have hBw : Below b w w2 := HB.out.trans (hB2.mono (by have := HSZ.out; omega))
      obtain ⟨⟨m0, m1, m2, m3, m4, m5, m6, m7⟩, z0, z1, z2, z3, z4, z5, z6, z7⟩ := box8 hbe2
      have HBE2 := Lib.hid hbe2
      have HBR2 := Lib.hid hbr2
      have HBW := Lib.hid hBw
      clear hB2 hbe2 hbr2 hBw CR c0
      go_upto_region 14 with fail
      have hg5 : w2.grownBy (((((w2.setCell ⟨b + 1, 1, none⟩ (.int .i64 r.p)).setCell ⟨b + 1, 2, none⟩ (.int .i64 r.q)).setCell ⟨b + 1, 3, none⟩ (.int .i64 r.a)).setCell ⟨b + 1, 4, none⟩ (.string r.key)).setCell ⟨b + 1, 5, none⟩ (.int .u32 (r.val : Nat))) (some (b + 1)) := ((((grown_set _ _ _ _).trans (grown_set _ _ _ _)).trans (grown_set _ _ _ _)).trans (grown_set _ _ _ _)).trans (grown_set _ _ _ _)
      have h5 : (((((w2.setCell ⟨b + 1, 1, none⟩ (.int .i64 r.p)).setCell ⟨b + 1, 2, none⟩ (.int .i64 r.q)).setCell ⟨b + 1, 3, none⟩ (.int .i64 r.a)).setCell ⟨b + 1, 4, none⟩ (.string r.key)).setCell ⟨b + 1, 5, none⟩ (.int .u32 (r.val : Nat))).heap[b + 1]? = some (.cells #[.int .i64 x.n, .int .i64 r.p, .int .i64 r.q, .int .i64 r.a, .string r.key, .int .u32 (r.val : Nat), .slice none 0 0, .int .i64 0] 29) := by simp [World.setCell, Array.getElem?_modify, HBE2.out]
      have h5r : (((((w2.setCell ⟨b + 1, 1, none⟩ (.int .i64 r.p)).setCell ⟨b + 1, 2, none⟩ (.int .i64 r.q)).setCell ⟨b + 1, 3, none⟩ (.int .i64 r.a)).setCell ⟨b + 1, 4, none⟩ (.string r.key)).setCell ⟨b + 1, 5, none⟩ (.int .u32 (r.val : Nat))).heap[b]? = some Z8 := (hg5.block b (by omega) (by simp only [ne_eq, Option.some.injEq]; omega)).trans HBR2.out
      have hB5 : Below b w (((((w2.setCell ⟨b + 1, 1, none⟩ (.int .i64 r.p)).setCell ⟨b + 1, 2, none⟩ (.int .i64 r.q)).setCell ⟨b + 1, 3, none⟩ (.int .i64 r.a)).setCell ⟨b + 1, 4, none⟩ (.string r.key)).setCell ⟨b + 1, 5, none⟩ (.int .u32 (r.val : Nat))) := HBW.out.grown hg5 (by omega) (fun k hk => by simp only [Option.some.injEq] at hk; omega)
      clear hg5
      generalize (((((w2.setCell ⟨b + 1, 1, none⟩ (.int .i64 r.p)).setCell ⟨b + 1, 2, none⟩ (.int .i64 r.q)).setCell ⟨b + 1, 3, none⟩ (.int .i64 r.a)).setCell ⟨b + 1, 4, none⟩ (.string r.key)).setCell ⟨b + 1, 5, none⟩ (.int .u32 (r.val : Nat))) = w5 at h5 h5r hB5 ⊢
      obtain ⟨⟨d0, d1, d2, d3, d4, d5, d6, d7⟩, _⟩ := box8 h5
      obtain ⟨⟨e0, e1, e2, e3, e4, e5, e6, e7⟩, g0, g1, g2, g3, g4, g5, g6, g7⟩ := box8 h5r
      have hfin := stored8 h5r (.int .i64 x.n) (.int .i64 r.p) (.int .i64 r.q) (.int .i64 r.a) (.string r.key) (.int .u32 (r.val : Nat)) (.slice none 0 0) (.int .i64 0)
      have hgr : w5.grownBy _ (some b) := set8_grown (W := w5) (b := b) (.int .i64 x.n) (.int .i64 r.p) (.int .i64 r.q) (.int .i64 r.a) (.string r.key) (.int .u32 (r.val : Nat)) (.slice none 0 0) (.int .i64 0)
      have HFIN := Lib.hid hfin
      have HGR := Lib.hid hgr
      have HB5 := Lib.hid hB5
      clear hfin hgr hB5 h5 h5r
      go_wp2_with fail
      have hfin := HFIN.out
      have hgr := HGR.out
      clear HFIN HGR d0 d1 d2 d3 d4 d5 d6 d7 e0 e1 e2 e3 e4 e5 e6 e7 g0 g1 g2 g3 g4 g5 g6 g7
      generalize ((((((((w5.setCell ⟨b, 0, none⟩ (.int .i64 x.n)).setCell ⟨b, 1, none⟩ (.int .i64 r.p)).setCell ⟨b, 2, none⟩ (.int .i64 r.q)).setCell ⟨b, 3, none⟩ (.int .i64 r.a)).setCell ⟨b, 4, none⟩ (.string r.key)).setCell ⟨b, 5, none⟩ (.int .u32 (r.val : Nat))).setCell ⟨b, 6, none⟩ (.slice none 0 0)).setCell ⟨b, 7, none⟩ (.int .i64 0)) = W at hfin hgr ⊢
      obtain ⟨⟨p0, p1, p2, p3, p4, p5, p6, p7⟩, _⟩ := box8 hfin
      have hWB : Below w.heap.size w W := by rw [HBB.out]; exact HB5.out.grown hgr (by have := HBB.out; have := HB5.out.size; omega) (fun k hk => by simp only [Option.some.injEq] at hk; omega)
      refine bodyPost_ret (v := .tuple #[.agg #[.int .i64 x.n, .int .i64 r.p, .int .i64 r.q, .int .i64 r.a, .string r.key, .int .u32 (r.val : Nat), .slice none 0 0, .int .i64 0], .bool (rdRec f).isSome]) (by simp [results, Try.results25, go_sem, p0, p1, p2, p3, p4, p5, p6, p7]) rfl ⟨⟨x.n, r, [], 0⟩, none, 0, 0, by rw [HRR.out]; cases rdRec f <;> rfl, ?_, hWB⟩
      intro y hy
      rw [HRR.out] at hy
      match hq : rdRec f with
      | none => rw [hq] at hy; cases hy
      | some r' =>
        rw [hq] at hy
        obtain rfl := Option.some.inj hy
        obtain rfl := HRL.out r' hq
        exact ⟨by rw [HK.out], OpsAt.nil _ _⟩
    · have hk1 : ((x.n : Int) == 1) = false := beq_eq_false_iff_ne.2 k1
      by_cases k3 : x.n = 3
      · have hk3 : ((x.n : Int) == 3) = true := beq_iff_eq.2 k3
        have hro : ro = (rdGraph f).map fun l => ⟨3, zeroR, l, 0⟩ := by rw [← HRO.out, rdE, if_neg k1, if_pos k3]
        have HRR := Lib.hid hro
        have CR := Lib.hid (readGraph_calls f HSF.out _ w1 (Items.mono (fun k hk => by have := HSZ.out; have := HBB.out; omega) (Items.low (by rw [HBB.out]; exact HB.out) HF.out)))
        have HK := Lib.hid k3
        clear k1 k3 hro
        go_wp2_with fail
        refine CR.out.mono ?_
        rintro e w2 ⟨A1, n1, c1, rfl, hr, hB2⟩
        have HRL := Lib.hid hr
        clear hr
        have hs2 : b + 2 ≤ w2.heap.size := by have := hB2.size; have := HSZ.out; omega
        have hbe2 := (hB2.block (b + 1) (by have := HSZ.out; omega)).trans HBE.out
        have hbr2 := (hB2.block b (by have := HSZ.out; omega)).trans HBR.out
        have hBw : Below b w w2 := HB.out.trans (hB2.mono (by have := HSZ.out; omega))
        obtain ⟨⟨m0, m1, m2, m3, m4, m5, m6, m7⟩, z0, z1, z2, z3, z4, z5, z6, z7⟩ := box8 hbe2
        have HBE2 := Lib.hid hbe2
        have HBR2 := Lib.hid hbr2
        have HBW := Lib.hid hBw
        clear hB2 hbe2 hbr2 hBw CR c0
        go_upto_region 14 with fail
        have hg5 : w2.grownBy (w2.setCell ⟨b + 1, 6, none⟩ (.slice A1 n1 c1)) (some (b + 1)) := grown_set _ _ _ _
        have h5 : (w2.setCell ⟨b + 1, 6, none⟩ (.slice A1 n1 c1)).heap[b + 1]? = some (.cells #[.int .i64 x.n, .int .i64 0, .int .i64 0, .int .i64 0, .string ⟨#[]⟩, .int .u32 0, .slice A1 n1 c1, .int .i64 0] 29) := by simp [World.setCell, Array.getElem?_modify, HBE2.out]
        have h5r : (w2.setCell ⟨b + 1, 6, none⟩ (.slice A1 n1 c1)).heap[b]? = some Z8 := (hg5.block b (by omega) (by simp only [ne_eq, Option.some.injEq]; omega)).trans HBR2.out
        have hB5 : Below b w (w2.setCell ⟨b + 1, 6, none⟩ (.slice A1 n1 c1)) := HBW.out.grown hg5 (by omega) (fun k hk => by simp only [Option.some.injEq] at hk; omega)
        have h5o : ∀ ops, rdGraph f = some ops → OpsAt (fun k => b + 2 ≤ k ∧ k < (w2.setCell ⟨b + 1, 6, none⟩ (.slice A1 n1 c1)).heap.size) (w2.setCell ⟨b + 1, 6, none⟩ (.slice A1 n1 c1)) (.slice A1 n1 c1) ops := fun ops h => (HRL.out ops h).keep (fun k hk => Below.heap_setCell _ _ _ _ (by show k ≠ b + 1; have := hk.1; have := HSZ.out; omega)) (fun k hk => ⟨by have := hk.1; have := HSZ.out; omega, by have := hk.2; simpa [World.setCell] using this⟩)
        clear hg5
        generalize (w2.setCell ⟨b + 1, 6, none⟩ (.slice A1 n1 c1)) = w5 at h5 h5r hB5 h5o ⊢
        obtain ⟨⟨d0, d1, d2, d3, d4, d5, d6, d7⟩, _⟩ := box8 h5
        obtain ⟨⟨e0, e1, e2, e3, e4, e5, e6, e7⟩, g0, g1, g2, g3, g4, g5, g6, g7⟩ := box8 h5r
        have hfin := stored8 h5r (.int .i64 x.n) (.int .i64 0) (.int .i64 0) (.int .i64 0) (.string ⟨#[]⟩) (.int .u32 0) (.slice A1 n1 c1) (.int .i64 0)
        have hgr : w5.grownBy _ (some b) := set8_grown (W := w5) (b := b) (.int .i64 x.n) (.int .i64 0) (.int .i64 0) (.int .i64 0) (.string ⟨#[]⟩) (.int .u32 0) (.slice A1 n1 c1) (.int .i64 0)
        have HFIN := Lib.hid hfin
        have HGR := Lib.hid hgr
        have HB5 := Lib.hid hB5
        have HOPS := Lib.hid h5o
        clear h5o
        clear hfin hgr hB5 h5 h5r
        go_wp2_with fail
        have hfin := HFIN.out
        have hgr := HGR.out
        clear HFIN HGR d0 d1 d2 d3 d4 d5 d6 d7 e0 e1 e2 e3 e4 e5 e6 e7 g0 g1 g2 g3 g4 g5 g6 g7
        generalize ((((((((w5.setCell ⟨b, 0, none⟩ (.int .i64 x.n)).setCell ⟨b, 1, none⟩ (.int .i64 0)).setCell ⟨b, 2, none⟩ (.int .i64 0)).setCell ⟨b, 3, none⟩ (.int .i64 0)).setCell ⟨b, 4, none⟩ (.string ⟨#[]⟩)).setCell ⟨b, 5, none⟩ (.int .u32 0)).setCell ⟨b, 6, none⟩ (.slice A1 n1 c1)).setCell ⟨b, 7, none⟩ (.int .i64 0)) = W at hfin hgr ⊢
        obtain ⟨⟨p0, p1, p2, p3, p4, p5, p6, p7⟩, _⟩ := box8 hfin
        have hWB : Below w.heap.size w W := by rw [HBB.out]; exact HB5.out.grown hgr (by have := HBB.out; have := HB5.out.size; omega) (fun k hk => by simp only [Option.some.injEq] at hk; omega)
        refine bodyPost_ret (v := .tuple #[.agg #[.int .i64 x.n, .int .i64 0, .int .i64 0, .int .i64 0, .string ⟨#[]⟩, .int .u32 0, .slice A1 n1 c1, .int .i64 0], .bool (rdGraph f).isSome]) (by simp [results, Try.results25, go_sem, p0, p1, p2, p3, p4, p5, p6, p7]) rfl ⟨⟨x.n, zeroR, (rdGraph f).getD [], 0⟩, A1, n1, c1, by rw [HRR.out]; cases rdGraph f <;> rfl, ?_, hWB⟩
        intro y hy
        rw [HRR.out] at hy
        match hq : rdGraph f with
        | none => rw [hq] at hy; cases hy
        | some ops =>
          rw [hq] at hy
          obtain rfl := Option.some.inj hy
          exact ⟨by rw [HK.out]; rfl, (HOPS.out ops hq).keep (fun k hk => hgr.block k hk.2 (by simp only [ne_eq, Option.some.injEq]; have := hk.1; omega)) (fun k hk => ⟨by have := hk.1; have := HBB.out; omega, Nat.lt_of_lt_of_le hk.2 hgr.size⟩)⟩
      · have hk3 : ((x.n : Int) == 3) = false := beq_eq_false_iff_ne.2 k3
        by_cases k2 : x.n = 2 ∨ x.n = 4 ∨ x.n = 5
        · have hro : ro = (rdNum f).map fun n => ⟨x.n, zeroR, [], n⟩ := by rw [← HRO.out, rdE, if_neg k1, if_neg k3, if_pos k2]
          have HRR := Lib.hid hro
          obtain ⟨o, ho⟩ : ∃ o, rdNum f = o := ⟨_, rfl⟩
          obtain ⟨num, hnum⟩ : ∃ num, o.getD 0 = num := ⟨_, rfl⟩
          obtain ⟨rb, hrb⟩ : ∃ rb, o.isSome = rb := ⟨_, rfl⟩
          have cr := readNumber_calls f (by rw [HN.out]; omega) _ w1 (Items.mono (fun k hk => by have := HSZ.out; have := HBB.out; omega) (Items.low (by rw [HBB.out]; exact HB.out) HF.out))
          rw [ho] at cr
          unfold RetNum at cr
          rw [hnum, hrb] at cr
          have CR := Lib.hid cr
          have HOO := Lib.hid ho
          have HNUM := Lib.hid hnum
          have HRB := Lib.hid hrb
          clear k1 k3 hro ho hnum hrb cr
          rcases k2 with k2 | k2 | k2
          · have hk2 : ((x.n : Int) == 2) = true := beq_iff_eq.2 k2
            clear k2
            go_wp2_with fail
            refine CR.out.mono ?_
            rintro e w2 ⟨rfl, hB2⟩
            have hs2 : b + 2 ≤ w2.heap.size := by have := hB2.size; have := HSZ.out; omega
            have hbe2 := (hB2.block (b + 1) (by have := HSZ.out; omega)).trans HBE.out
            have hbr2 := (hB2.block b (by have := HSZ.out; omega)).trans HBR.out
            have hBw : Below b w w2 := HB.out.trans (hB2.mono (by have := HSZ.out; omega))
            obtain ⟨⟨m0, m1, m2, m3, m4, m5, m6, m7⟩, z0, z1, z2, z3, z4, z5, z6, z7⟩ := box8 hbe2
            have HBE2 := Lib.hid hbe2
            have HBR2 := Lib.hid hbr2
            have HBW := Lib.hid hBw
            clear hB2 hbe2 hbr2 hBw CR c0
            go_upto_region 14 with fail
            have hg5 : w2.grownBy (w2.setCell ⟨b + 1, 7, none⟩ (.int .i64 num)) (some (b + 1)) := grown_set _ _ _ _
            have h5 : (w2.setCell ⟨b + 1, 7, none⟩ (.int .i64 num)).heap[b + 1]? = some (.cells #[.int .i64 x.n, .int .i64 0, .int .i64 0, .int .i64 0, .string ⟨#[]⟩, .int .u32 0, .slice none 0 0, .int .i64 num] 29) := by simp [World.setCell, Array.getElem?_modify, HBE2.out]
            have h5r : (w2.setCell ⟨b + 1, 7, none⟩ (.int .i64 num)).heap[b]? = some Z8 := (hg5.block b (by omega) (by simp only [ne_eq, Option.some.injEq]; omega)).trans HBR2.out
            have hB5 : Below b w (w2.setCell ⟨b + 1, 7, none⟩ (.int .i64 num)) := HBW.out.grown hg5 (by omega) (fun k hk => by simp only [Option.some.injEq] at hk; omega)
            clear hg5
            generalize (w2.setCell ⟨b + 1, 7, none⟩ (.int .i64 num)) = w5 at h5 h5r hB5 ⊢
            obtain ⟨⟨d0, d1, d2, d3, d4, d5, d6, d7⟩, _⟩ := box8 h5
            obtain ⟨⟨e0, e1, e2, e3, e4, e5, e6, e7⟩, g0, g1, g2, g3, g4, g5, g6, g7⟩ := box8 h5r
            have hfin := stored8 h5r (.int .i64 x.n) (.int .i64 0) (.int .i64 0) (.int .i64 0) (.string ⟨#[]⟩) (.int .u32 0) (.slice none 0 0) (.int .i64 num)
            have hgr : w5.grownBy _ (some b) := set8_grown (W := w5) (b := b) (.int .i64 x.n) (.int .i64 0) (.int .i64 0) (.int .i64 0) (.string ⟨#[]⟩) (.int .u32 0) (.slice none 0 0) (.int .i64 num)
            have HFIN := Lib.hid hfin
            have HGR := Lib.hid hgr
            have HB5 := Lib.hid hB5
            clear hfin hgr hB5 h5 h5r
            go_wp2_with fail
            have hfin := HFIN.out
            have hgr := HGR.out
            clear HFIN HGR d0 d1 d2 d3 d4 d5 d6 d7 e0 e1 e2 e3 e4 e5 e6 e7 g0 g1 g2 g3 g4 g5 g6 g7
            generalize ((((((((w5.setCell ⟨b, 0, none⟩ (.int .i64 x.n)).setCell ⟨b, 1, none⟩ (.int .i64 0)).setCell ⟨b, 2, none⟩ (.int .i64 0)).setCell ⟨b, 3, none⟩ (.int .i64 0)).setCell ⟨b, 4, none⟩ (.string ⟨#[]⟩)).setCell ⟨b, 5, none⟩ (.int .u32 0)).setCell ⟨b, 6, none⟩ (.slice none 0 0)).setCell ⟨b, 7, none⟩ (.int .i64 num)) = W at hfin hgr ⊢
            obtain ⟨⟨p0, p1, p2, p3, p4, p5, p6, p7⟩, _⟩ := box8 hfin
            have hWB : Below w.heap.size w W := by rw [HBB.out]; exact HB5.out.grown hgr (by have := HBB.out; have := HB5.out.size; omega) (fun k hk => by simp only [Option.some.injEq] at hk; omega)
            refine bodyPost_ret (v := .tuple #[.agg #[.int .i64 x.n, .int .i64 0, .int .i64 0, .int .i64 0, .string ⟨#[]⟩, .int .u32 0, .slice none 0 0, .int .i64 num], .bool rb]) (by simp [results, Try.results25, go_sem, p0, p1, p2, p3, p4, p5, p6, p7]) rfl ⟨⟨x.n, zeroR, [], num⟩, none, 0, 0, by rw [HRR.out, ← HRB.out, ← HOO.out]; cases rdNum f <;> rfl, ?_, hWB⟩
            intro y hy
            rw [HRR.out, HOO.out] at hy
            match o, HNUM.out, hy with
            | some n', hn', hy =>
              obtain rfl := Option.some.inj hy
              have hn2 : n' = num := hn'
              exact ⟨by rw [← hn2], OpsAt.nil _ _⟩
          · have hk2 : ((x.n : Int) == 2) = false := beq_eq_false_iff_ne.2 (by omega)
            have hk4 : ((x.n : Int) == 4) = true := beq_iff_eq.2 k2
            clear k2
            go_wp2_with fail
            refine CR.out.mono ?_
            rintro e w2 ⟨rfl, hB2⟩
            have hs2 : b + 2 ≤ w2.heap.size := by have := hB2.size; have := HSZ.out; omega
            have hbe2 := (hB2.block (b + 1) (by have := HSZ.out; omega)).trans HBE.out
            have hbr2 := (hB2.block b (by have := HSZ.out; omega)).trans HBR.out
            have hBw : Below b w w2 := HB.out.trans (hB2.mono (by have := HSZ.out; omega))
            obtain ⟨⟨m0, m1, m2, m3, m4, m5, m6, m7⟩, z0, z1, z2, z3, z4, z5, z6, z7⟩ := box8 hbe2
            have HBE2 := Lib.hid hbe2
            have HBR2 := Lib.hid hbr2
            have HBW := Lib.hid hBw
            clear hB2 hbe2 hbr2 hBw CR c0
            go_upto_region 14 with fail
            have hg5 : w2.grownBy (w2.setCell ⟨b + 1, 7, none⟩ (.int .i64 num)) (some (b + 1)) := grown_set _ _ _ _
            have h5 : (w2.setCell ⟨b + 1, 7, none⟩ (.int .i64 num)).heap[b + 1]? = some (.cells #[.int .i64 x.n, .int .i64 0, .int .i64 0, .int .i64 0, .string ⟨#[]⟩, .int .u32 0, .slice none 0 0, .int .i64 num] 29) := by simp [World.setCell, Array.getElem?_modify, HBE2.out]
            have h5r : (w2.setCell ⟨b + 1, 7, none⟩ (.int .i64 num)).heap[b]? = some Z8 := (hg5.block b (by omega) (by simp only [ne_eq, Option.some.injEq]; omega)).trans HBR2.out
            have hB5 : Below b w (w2.setCell ⟨b + 1, 7, none⟩ (.int .i64 num)) := HBW.out.grown hg5 (by omega) (fun k hk => by simp only [Option.some.injEq] at hk; omega)
            clear hg5
            generalize (w2.setCell ⟨b + 1, 7, none⟩ (.int .i64 num)) = w5 at h5 h5r hB5 ⊢
            obtain ⟨⟨d0, d1, d2, d3, d4, d5, d6, d7⟩, _⟩ := box8 h5
            obtain ⟨⟨e0, e1, e2, e3, e4, e5, e6, e7⟩, g0, g1, g2, g3, g4, g5, g6, g7⟩ := box8 h5r
            have hfin := stored8 h5r (.int .i64 x.n) (.int .i64 0) (.int .i64 0) (.int .i64 0) (.string ⟨#[]⟩) (.int .u32 0) (.slice none 0 0) (.int .i64 num)
            have hgr : w5.grownBy _ (some b) := set8_grown (W := w5) (b := b) (.int .i64 x.n) (.int .i64 0) (.int .i64 0) (.int .i64 0) (.string ⟨#[]⟩) (.int .u32 0) (.slice none 0 0) (.int .i64 num)
            have HFIN := Lib.hid hfin
            have HGR := Lib.hid hgr
            have HB5 := Lib.hid hB5
            clear hfin hgr hB5 h5 h5r
            go_wp2_with fail
            have hfin := HFIN.out
            have hgr := HGR.out
            clear HFIN HGR d0 d1 d2 d3 d4 d5 d6 d7 e0 e1 e2 e3 e4 e5 e6 e7 g0 g1 g2 g3 g4 g5 g6 g7
            generalize ((((((((w5.setCell ⟨b, 0, none⟩ (.int .i64 x.n)).setCell ⟨b, 1, none⟩ (.int .i64 0)).setCell ⟨b, 2, none⟩ (.int .i64 0)).setCell ⟨b, 3, none⟩ (.int .i64 0)).setCell ⟨b, 4, none⟩ (.string ⟨#[]⟩)).setCell ⟨b, 5, none⟩ (.int .u32 0)).setCell ⟨b, 6, none⟩ (.slice none 0 0)).setCell ⟨b, 7, none⟩ (.int .i64 num)) = W at hfin hgr ⊢
            obtain ⟨⟨p0, p1, p2, p3, p4, p5, p6, p7⟩, _⟩ := box8 hfin
            have hWB : Below w.heap.size w W := by rw [HBB.out]; exact HB5.out.grown hgr (by have := HBB.out; have := HB5.out.size; omega) (fun k hk => by simp only [Option.some.injEq] at hk; omega)
            refine bodyPost_ret (v := .tuple #[.agg #[.int .i64 x.n, .int .i64 0, .int .i64 0, .int .i64 0, .string ⟨#[]⟩, .int .u32 0, .slice none 0 0, .int .i64 num], .bool rb]) (by simp [results, Try.results25, go_sem, p0, p1, p2, p3, p4, p5, p6, p7]) rfl ⟨⟨x.n, zeroR, [], num⟩, none, 0, 0, by rw [HRR.out, ← HRB.out, ← HOO.out]; cases rdNum f <;> rfl, ?_, hWB⟩
            intro y hy
            rw [HRR.out, HOO.out] at hy
            match o, HNUM.out, hy with
            | some n', hn', hy =>
              obtain rfl := Option.some.inj hy
              have hn2 : n' = num := hn'
              exact ⟨by rw [← hn2], OpsAt.nil _ _⟩
          · have hk2 : ((x.n : Int) == 2) = false := beq_eq_false_iff_ne.2 (by omega)
            have hk4 : ((x.n : Int) == 4) = false := beq_eq_false_iff_ne.2 (by omega)
            have hk5 : ((x.n : Int) == 5) = true := beq_iff_eq.2 k2
            clear k2
            go_wp2_with fail
            refine CR.out.mono ?_
            rintro e w2 ⟨rfl, hB2⟩
            have hs2 : b + 2 ≤ w2.heap.size := by have := hB2.size; have := HSZ.out; omega
            have hbe2 := (hB2.block (b + 1) (by have := HSZ.out; omega)).trans HBE.out
            have hbr2 := (hB2.block b (by have := HSZ.out; omega)).trans HBR.out
            have hBw : Below b w w2 := HB.out.trans (hB2.mono (by have := HSZ.out; omega))
            obtain ⟨⟨m0, m1, m2, m3, m4, m5, m6, m7⟩, z0, z1, z2, z3, z4, z5, z6, z7⟩ := box8 hbe2
            have HBE2 := Lib.hid hbe2
            have HBR2 := Lib.hid hbr2
            have HBW := Lib.hid hBw
            clear hB2 hbe2 hbr2 hBw CR c0
            go_upto_region 14 with fail
            have hg5 : w2.grownBy (w2.setCell ⟨b + 1, 7, none⟩ (.int .i64 num)) (some (b + 1)) := grown_set _ _ _ _
            have h5 : (w2.setCell ⟨b + 1, 7, none⟩ (.int .i64 num)).heap[b + 1]? = some (.cells #[.int .i64 x.n, .int .i64 0, .int .i64 0, .int .i64 0, .string ⟨#[]⟩, .int .u32 0, .slice none 0 0, .int .i64 num] 29) := by simp [World.setCell, Array.getElem?_modify, HBE2.out]
            have h5r : (w2.setCell ⟨b + 1, 7, none⟩ (.int .i64 num)).heap[b]? = some Z8 := (hg5.block b (by omega) (by simp only [ne_eq, Option.some.injEq]; omega)).trans HBR2.out
            have hB5 : Below b w (w2.setCell ⟨b + 1, 7, none⟩ (.int .i64 num)) := HBW.out.grown hg5 (by omega) (fun k hk => by simp only [Option.some.injEq] at hk; omega)
            clear hg5
            generalize (w2.setCell ⟨b + 1, 7, none⟩ (.int .i64 num)) = w5 at h5 h5r hB5 ⊢
            obtain ⟨⟨d0, d1, d2, d3, d4, d5, d6, d7⟩, _⟩ := box8 h5
            obtain ⟨⟨e0, e1, e2, e3, e4, e5, e6, e7⟩, g0, g1, g2, g3, g4, g5, g6, g7⟩ := box8 h5r
            have hfin := stored8 h5r (.int .i64 x.n) (.int .i64 0) (.int .i64 0) (.int .i64 0) (.string ⟨#[]⟩) (.int .u32 0) (.slice none 0 0) (.int .i64 num)
            have hgr : w5.grownBy _ (some b) := set8_grown (W := w5) (b := b) (.int .i64 x.n) (.int .i64 0) (.int .i64 0) (.int .i64 0) (.string ⟨#[]⟩) (.int .u32 0) (.slice none 0 0) (.int .i64 num)
            have HFIN := Lib.hid hfin
            have HGR := Lib.hid hgr
            have HB5 := Lib.hid hB5
            clear hfin hgr hB5 h5 h5r
            go_wp2_with fail
            have hfin := HFIN.out
            have hgr := HGR.out
            clear HFIN HGR d0 d1 d2 d3 d4 d5 d6 d7 e0 e1 e2 e3 e4 e5 e6 e7 g0 g1 g2 g3 g4 g5 g6 g7
            generalize ((((((((w5.setCell ⟨b, 0, none⟩ (.int .i64 x.n)).setCell ⟨b, 1, none⟩ (.int .i64 0)).setCell ⟨b, 2, none⟩ (.int .i64 0)).setCell ⟨b, 3, none⟩ (.int .i64 0)).setCell ⟨b, 4, none⟩ (.string ⟨#[]⟩)).setCell ⟨b, 5, none⟩ (.int .u32 0)).setCell ⟨b, 6, none⟩ (.slice none 0 0)).setCell ⟨b, 7, none⟩ (.int .i64 num)) = W at hfin hgr ⊢
            obtain ⟨⟨p0, p1, p2, p3, p4, p5, p6, p7⟩, _⟩ := box8 hfin
            have hWB : Below w.heap.size w W := by rw [HBB.out]; exact HB5.out.grown hgr (by have := HBB.out; have := HB5.out.size; omega) (fun k hk => by simp only [Option.some.injEq] at hk; omega)
            refine bodyPost_ret (v := .tuple #[.agg #[.int .i64 x.n, .int .i64 0, .int .i64 0, .int .i64 0, .string ⟨#[]⟩, .int .u32 0, .slice none 0 0, .int .i64 num], .bool rb]) (by simp [results, Try.results25, go_sem, p0, p1, p2, p3, p4, p5, p6, p7]) rfl ⟨⟨x.n, zeroR, [], num⟩, none, 0, 0, by rw [HRR.out, ← HRB.out, ← HOO.out]; cases rdNum f <;> rfl, ?_, hWB⟩
            intro y hy
            rw [HRR.out, HOO.out] at hy
            match o, HNUM.out, hy with
            | some n', hn', hy =>
              obtain rfl := Option.some.inj hy
              have hn2 : n' = num := hn'
              exact ⟨by rw [← hn2], OpsAt.nil _ _⟩
        · have hro : ro = none := by rw [← HRO.out, rdE, if_neg k1, if_neg k3, if_neg k2]
          subst hro
          have hk2 : ((x.n : Int) == 2) = false := beq_eq_false_iff_ne.2 (by omega)
          have hk4 : ((x.n : Int) == 4) = false := beq_eq_false_iff_ne.2 (by omega)
          have hk5 : ((x.n : Int) == 5) = false := beq_eq_false_iff_ne.2 (by omega)
          clear k1 k2 k3
          go_upto_region 14 with fail
          have h5 := HBE.out
          have h5r := HBR.out
          have hB5 := HB.out
          obtain ⟨⟨d0, d1, d2, d3, d4, d5, d6, d7⟩, _⟩ := box8 h5
          obtain ⟨⟨e0, e1, e2, e3, e4, e5, e6, e7⟩, g0, g1, g2, g3, g4, g5, g6, g7⟩ := box8 h5r
          have hfin := stored8 h5r (.int .i64 x.n) (.int .i64 0) (.int .i64 0) (.int .i64 0) (.string ⟨#[]⟩) (.int .u32 0) (.slice none 0 0) (.int .i64 0)
          have hgr : w1.grownBy _ (some b) := set8_grown (W := w1) (b := b) (.int .i64 x.n) (.int .i64 0) (.int .i64 0) (.int .i64 0) (.string ⟨#[]⟩) (.int .u32 0) (.slice none 0 0) (.int .i64 0)
          have HFIN := Lib.hid hfin
          have HGR := Lib.hid hgr
          have HB5 := Lib.hid hB5
          clear hfin hgr hB5 h5 h5r
          go_wp2_with fail
          have hfin := HFIN.out
          have hgr := HGR.out
          clear HFIN HGR d0 d1 d2 d3 d4 d5 d6 d7 e0 e1 e2 e3 e4 e5 e6 e7 g0 g1 g2 g3 g4 g5 g6 g7
          generalize ((((((((w1.setCell ⟨b, 0, none⟩ (.int .i64 x.n)).setCell ⟨b, 1, none⟩ (.int .i64 0)).setCell ⟨b, 2, none⟩ (.int .i64 0)).setCell ⟨b, 3, none⟩ (.int .i64 0)).setCell ⟨b, 4, none⟩ (.string ⟨#[]⟩)).setCell ⟨b, 5, none⟩ (.int .u32 0)).setCell ⟨b, 6, none⟩ (.slice none 0 0)).setCell ⟨b, 7, none⟩ (.int .i64 0)) = W at hfin hgr ⊢
          obtain ⟨⟨p0, p1, p2, p3, p4, p5, p6, p7⟩, _⟩ := box8 hfin
          have hWB : Below w.heap.size w W := by rw [HBB.out]; exact HB5.out.grown hgr (by have := HBB.out; have := HB5.out.size; omega) (fun k hk => by simp only [Option.some.injEq] at hk; omega)
          refine bodyPost_ret (v := .tuple #[.agg #[.int .i64 x.n, .int .i64 0, .int .i64 0, .int .i64 0, .string ⟨#[]⟩, .int .u32 0, .slice none 0 0, .int .i64 0], .bool false]) (by simp [results, Try.results25, go_sem, p0, p1, p2, p3, p4, p5, p6, p7]) rfl ⟨⟨x.n, zeroR, [], 0⟩, none, 0, 0, rfl, ?_, hWB⟩
          exact fun y hy => by cases hy
  · have hcap2 : ¬ (cap : Int) = 1 := by omega
    have HF : Hid (Old w.heap.size w (.slice (some ⟨ib, io + 4, none⟩) n (cap - 1)) f) := Lib.hid HTL.out
    go_upto_region 5 with fail
    by_cases k1 : x.n = 1
    · have hk1 : ((x.n : Int) == 1) = true := beq_iff_eq.2 k1
      have hro : ro = (rdRec f).map fun r => ⟨1, r, [], 0⟩ := by rw [← HRO.out, rdE, if_pos k1]
      have HRR := Lib.hid hro
      have CR := Lib.hid (readRecord_calls f (by rw [HN.out]; omega) _ w1 (Items.mono (fun k hk => by have := HSZ.out; have := HBB.out; omega) (Items.low (by rw [HBB.out]; exact HB.out) HF.out)))
      have HK := Lib.hid k1
      clear k1 hro
      go_wp2_with fail
      refine CR.out.mono ?_
      rintro e w2 ⟨r, rfl, hr, hB2⟩
      have HRL := Lib.hid hr
      clear hr
      have hs2 : b + 2 ≤ w2.heap.size := by have := hB2.size; have := HSZ.out; omega
      have hbe2 := (hB2.block (b + 1) (by have := HSZ.out; omega)).trans HBE.out
      have hbr2 := (hB2.block b (by have := HSZ.out; omega)).trans HBR.out
      have hBw : Below b w w2 := HB.out.trans (hB2.mono (by have := HSZ.out; omega))
      obtain ⟨⟨m0, m1, m2, m3, m4, m5, m6, m7⟩, z0, z1, z2, z3, z4, z5, z6, z7⟩ := box8 hbe2
      have HBE2 := Lib.hid hbe2
      have HBR2 := Lib.hid hbr2
      have HBW := Lib.hid hBw
      clear hB2 hbe2 hbr2 hBw CR c0
      go_upto_region 14 with fail
      have hg5 : w2.grownBy (((((w2.setCell ⟨b + 1, 1, none⟩ (.int .i64 r.p)).setCell ⟨b + 1, 2, none⟩ (.int .i64 r.q)).setCell ⟨b + 1, 3, none⟩ (.int .i64 r.a)).setCell ⟨b + 1, 4, none⟩ (.string r.key)).setCell ⟨b + 1, 5, none⟩ (.int .u32 (r.val : Nat))) (some (b + 1)) := ((((grown_set _ _ _ _).trans (grown_set _ _ _ _)).trans (grown_set _ _ _ _)).trans (grown_set _ _ _ _)).trans (grown_set _ _ _ _)
      have h5 : (((((w2.setCell ⟨b + 1, 1, none⟩ (.int .i64 r.p)).setCell ⟨b + 1, 2, none⟩ (.int .i64 r.q)).setCell ⟨b + 1, 3, none⟩ (.int .i64 r.a)).setCell ⟨b + 1, 4, none⟩ (.string r.key)).setCell ⟨b + 1, 5, none⟩ (.int .u32 (r.val : Nat))).heap[b + 1]? = some (.cells #[.int .i64 x.n, .int .i64 r.p, .int .i64 r.q, .int .i64 r.a, .string r.key, .int .u32 (r.val : Nat), .slice none 0 0, .int .i64 0] 29) := by simp [World.setCell, Array.getElem?_modify, HBE2.out]
      have h5r : (((((w2.setCell ⟨b + 1, 1, none⟩ (.int .i64 r.p)).setCell ⟨b + 1, 2, none⟩ (.int .i64 r.q)).setCell ⟨b + 1, 3, none⟩ (.int .i64 r.a)).setCell ⟨b + 1, 4, none⟩ (.string r.key)).setCell ⟨b + 1, 5, none⟩ (.int .u32 (r.val : Nat))).heap[b]? = some Z8 := (hg5.block b (by omega) (by simp only [ne_eq, Option.some.injEq]; omega)).trans HBR2.out
      have hB5 : Below b w (((((w2.setCell ⟨b + 1, 1, none⟩ (.int .i64 r.p)).setCell ⟨b + 1, 2, none⟩ (.int .i64 r.q)).setCell ⟨b + 1, 3, none⟩ (.int .i64 r.a)).setCell ⟨b + 1, 4, none⟩ (.string r.key)).setCell ⟨b + 1, 5, none⟩ (.int .u32 (r.val : Nat))) := HBW.out.grown hg5 (by omega) (fun k hk => by simp only [Option.some.injEq] at hk; omega)
      clear hg5
      generalize (((((w2.setCell ⟨b + 1, 1, none⟩ (.int .i64 r.p)).setCell ⟨b + 1, 2, none⟩ (.int .i64 r.q)).setCell ⟨b + 1, 3, none⟩ (.int .i64 r.a)).setCell ⟨b + 1, 4, none⟩ (.string r.key)).setCell ⟨b + 1, 5, none⟩ (.int .u32 (r.val : Nat))) = w5 at h5 h5r hB5 ⊢
      obtain ⟨⟨d0, d1, d2, d3, d4, d5, d6, d7⟩, _⟩ := box8 h5
      obtain ⟨⟨e0, e1, e2, e3, e4, e5, e6, e7⟩, g0, g1, g2, g3, g4, g5, g6, g7⟩ := box8 h5r
      have hfin := stored8 h5r (.int .i64 x.n) (.int .i64 r.p) (.int .i64 r.q) (.int .i64 r.a) (.string r.key) (.int .u32 (r.val : Nat)) (.slice none 0 0) (.int .i64 0)
      have hgr : w5.grownBy _ (some b) := set8_grown (W := w5) (b := b) (.int .i64 x.n) (.int .i64 r.p) (.int .i64 r.q) (.int .i64 r.a) (.string r.key) (.int .u32 (r.val : Nat)) (.slice none 0 0) (.int .i64 0)
      have HFIN := Lib.hid hfin
      have HGR := Lib.hid hgr
      have HB5 := Lib.hid hB5
      clear hfin hgr hB5 h5 h5r
      go_wp2_with fail
      have hfin := HFIN.out
      have hgr := HGR.out
      clear HFIN HGR d0 d1 d2 d3 d4 d5 d6 d7 e0 e1 e2 e3 e4 e5 e6 e7 g0 g1 g2 g3 g4 g5 g6 g7
      generalize ((((((((w5.setCell ⟨b, 0, none⟩ (.int .i64 x.n)).setCell ⟨b, 1, none⟩ (.int .i64 r.p)).setCell ⟨b, 2, none⟩ (.int .i64 r.q)).setCell ⟨b, 3, none⟩ (.int .i64 r.a)).setCell ⟨b, 4, none⟩ (.string r.key)).setCell ⟨b, 5, none⟩ (.int .u32 (r.val : Nat))).setCell ⟨b, 6, none⟩ (.slice none 0 0)).setCell ⟨b, 7, none⟩ (.int .i64 0)) = W at hfin hgr ⊢
      obtain ⟨⟨p0, p1, p2, p3, p4, p5, p6, p7⟩, _⟩ := box8 hfin
      have hWB : Below w.heap.size w W := by rw [HBB.out]; exact HB5.out.grown hgr (by have := HBB.out; have := HB5.out.size; omega) (fun k hk => by simp only [Option.some.injEq] at hk; omega)
      refine bodyPost_ret (v := .tuple #[.agg #[.int .i64 x.n, .int .i64 r.p, .int .i64 r.q, .int .i64 r.a, .string r.key, .int .u32 (r.val : Nat), .slice none 0 0, .int .i64 0], .bool (rdRec f).isSome]) (by simp [results, Try.results25, go_sem, p0, p1, p2, p3, p4, p5, p6, p7]) rfl ⟨⟨x.n, r, [], 0⟩, none, 0, 0, by rw [HRR.out]; cases rdRec f <;> rfl, ?_, hWB⟩
      intro y hy
      rw [HRR.out] at hy
      match hq : rdRec f with
      | none => rw [hq] at hy; cases hy
      | some r' =>
        rw [hq] at hy
        obtain rfl := Option.some.inj hy
        obtain rfl := HRL.out r' hq
        exact ⟨by rw [HK.out], OpsAt.nil _ _⟩
    · have hk1 : ((x.n : Int) == 1) = false := beq_eq_false_iff_ne.2 k1
      by_cases k3 : x.n = 3
      · have hk3 : ((x.n : Int) == 3) = true := beq_iff_eq.2 k3
        have hro : ro = (rdGraph f).map fun l => ⟨3, zeroR, l, 0⟩ := by rw [← HRO.out, rdE, if_neg k1, if_pos k3]
        have HRR := Lib.hid hro
        have CR := Lib.hid (readGraph_calls f HSF.out _ w1 (Items.mono (fun k hk => by have := HSZ.out; have := HBB.out; omega) (Items.low (by rw [HBB.out]; exact HB.out) HF.out)))
        have HK := Lib.hid k3
        clear k1 k3 hro
        go_wp2_with fail
        refine CR.out.mono ?_
        rintro e w2 ⟨A1, n1, c1, rfl, hr, hB2⟩
        have HRL := Lib.hid hr
        clear hr
        have hs2 : b + 2 ≤ w2.heap.size := by have := hB2.size; have := HSZ.out; omega
        have hbe2 := (hB2.block (b + 1) (by have := HSZ.out; omega)).trans HBE.out
        have hbr2 := (hB2.block b (by have := HSZ.out; omega)).trans HBR.out
        have hBw : Below b w w2 := HB.out.trans (hB2.mono (by have := HSZ.out; omega))
        obtain ⟨⟨m0, m1, m2, m3, m4, m5, m6, m7⟩, z0, z1, z2, z3, z4, z5, z6, z7⟩ := box8 hbe2
        have HBE2 := Lib.hid hbe2
        have HBR2 := Lib.hid hbr2
        have HBW := Lib.hid hBw
        clear hB2 hbe2 hbr2 hBw CR c0
        go_upto_region 14 with fail
        have hg5 : w2.grownBy (w2.setCell ⟨b + 1, 6, none⟩ (.slice A1 n1 c1)) (some (b + 1)) := grown_set _ _ _ _
        have h5 : (w2.setCell ⟨b + 1, 6, none⟩ (.slice A1 n1 c1)).heap[b + 1]? = some (.cells #[.int .i64 x.n, .int .i64 0, .int .i64 0, .int .i64 0, .string ⟨#[]⟩, .int .u32 0, .slice A1 n1 c1, .int .i64 0] 29) := by simp [World.setCell, Array.getElem?_modify, HBE2.out]
        have h5r : (w2.setCell ⟨b + 1, 6, none⟩ (.slice A1 n1 c1)).heap[b]? = some Z8 := (hg5.block b (by omega) (by simp only [ne_eq, Option.some.injEq]; omega)).trans HBR2.out
        have hB5 : Below b w (w2.setCell ⟨b + 1, 6, none⟩ (.slice A1 n1 c1)) := HBW.out.grown hg5 (by omega) (fun k hk => by simp only [Option.some.injEq] at hk; omega)
        have h5o : ∀ ops, rdGraph f = some ops → OpsAt (fun k => b + 2 ≤ k ∧ k < (w2.setCell ⟨b + 1, 6, none⟩ (.slice A1 n1 c1)).heap.size) (w2.setCell ⟨b + 1, 6, none⟩ (.slice A1 n1 c1)) (.slice A1 n1 c1) ops := fun ops h => (HRL.out ops h).keep (fun k hk => Below.heap_setCell _ _ _ _ (by show k ≠ b + 1; have := hk.1; have := HSZ.out; omega)) (fun k hk => ⟨by have := hk.1; have := HSZ.out; omega, by have := hk.2; simpa [World.setCell] using this⟩)
        clear hg5
        generalize (w2.setCell ⟨b + 1, 6, none⟩ (.slice A1 n1 c1)) = w5 at h5 h5r hB5 h5o ⊢
        obtain ⟨⟨d0, d1, d2, d3, d4, d5, d6, d7⟩, _⟩ := box8 h5
        obtain ⟨⟨e0, e1, e2, e3, e4, e5, e6, e7⟩, g0, g1, g2, g3, g4, g5, g6, g7⟩ := box8 h5r
        have hfin := stored8 h5r (.int .i64 x.n) (.int .i64 0) (.int .i64 0) (.int .i64 0) (.string ⟨#[]⟩) (.int .u32 0) (.slice A1 n1 c1) (.int .i64 0)
        have hgr : w5.grownBy _ (some b) := set8_grown (W := w5) (b := b) (.int .i64 x.n) (.int .i64 0) (.int .i64 0) (.int .i64 0) (.string ⟨#[]⟩) (.int .u32 0) (.slice A1 n1 c1) (.int .i64 0)
        have HFIN := Lib.hid hfin
        have HGR := Lib.hid hgr
        have HB5 := Lib.hid hB5
        have HOPS := Lib.hid h5o
        clear h5o
        clear hfin hgr hB5 h5 h5r
        go_wp2_with fail
        have hfin := HFIN.out
        have hgr := HGR.out
        clear HFIN HGR d0 d1 d2 d3 d4 d5 d6 d7 e0 e1 e2 e3 e4 e5 e6 e7 g0 g1 g2 g3 g4 g5 g6 g7
        generalize ((((((((w5.setCell ⟨b, 0, none⟩ (.int .i64 x.n)).setCell ⟨b, 1, none⟩ (.int .i64 0)).setCell ⟨b, 2, none⟩ (.int .i64 0)).setCell ⟨b, 3, none⟩ (.int .i64 0)).setCell ⟨b, 4, none⟩ (.string ⟨#[]⟩)).setCell ⟨b, 5, none⟩ (.int .u32 0)).setCell ⟨b, 6, none⟩ (.slice A1 n1 c1)).setCell ⟨b, 7, none⟩ (.int .i64 0)) = W at hfin hgr ⊢
        obtain ⟨⟨p0, p1, p2, p3, p4, p5, p6, p7⟩, _⟩ := box8 hfin
        have hWB : Below w.heap.size w W := by rw [HBB.out]; exact HB5.out.grown hgr (by have := HBB.out; have := HB5.out.size; omega) (fun k hk => by simp only [Option.some.injEq] at hk; omega)
        refine bodyPost_ret (v := .tuple #[.agg #[.int .i64 x.n, .int .i64 0, .int .i64 0, .int .i64 0, .string ⟨#[]⟩, .int .u32 0, .slice A1 n1 c1, .int .i64 0], .bool (rdGraph f).isSome]) (by simp [results, Try.results25, go_sem, p0, p1, p2, p3, p4, p5, p6, p7]) rfl ⟨⟨x.n, zeroR, (rdGraph f).getD [], 0⟩, A1, n1, c1, by rw [HRR.out]; cases rdGraph f <;> rfl, ?_, hWB⟩
        intro y hy
        rw [HRR.out] at hy
        match hq : rdGraph f with
        | none => rw [hq] at hy; cases hy
        | some ops =>
          rw [hq] at hy
          obtain rfl := Option.some.inj hy
          exact ⟨by rw [HK.out]; rfl, (HOPS.out ops hq).keep (fun k hk => hgr.block k hk.2 (by simp only [ne_eq, Option.some.injEq]; have := hk.1; omega)) (fun k hk => ⟨by have := hk.1; have := HBB.out; omega, Nat.lt_of_lt_of_le hk.2 hgr.size⟩)⟩
      · have hk3 : ((x.n : Int) == 3) = false := beq_eq_false_iff_ne.2 k3
        by_cases k2 : x.n = 2 ∨ x.n = 4 ∨ x.n = 5
        · have hro : ro = (rdNum f).map fun n => ⟨x.n, zeroR, [], n⟩ := by rw [← HRO.out, rdE, if_neg k1, if_neg k3, if_pos k2]
          have HRR := Lib.hid hro
          obtain ⟨o, ho⟩ : ∃ o, rdNum f = o := ⟨_, rfl⟩
          obtain ⟨num, hnum⟩ : ∃ num, o.getD 0 = num := ⟨_, rfl⟩
          obtain ⟨rb, hrb⟩ : ∃ rb, o.isSome = rb := ⟨_, rfl⟩
          have cr := readNumber_calls f (by rw [HN.out]; omega) _ w1 (Items.mono (fun k hk => by have := HSZ.out; have := HBB.out; omega) (Items.low (by rw [HBB.out]; exact HB.out) HF.out))
          rw [ho] at cr
          unfold RetNum at cr
          rw [hnum, hrb] at cr
          have CR := Lib.hid cr
          have HOO := Lib.hid ho
          have HNUM := Lib.hid hnum
          have HRB := Lib.hid hrb
          clear k1 k3 hro ho hnum hrb cr
          rcases k2 with k2 | k2 | k2
          · have hk2 : ((x.n : Int) == 2) = true := beq_iff_eq.2 k2
            clear k2
            go_wp2_with fail
            refine CR.out.mono ?_
            rintro e w2 ⟨rfl, hB2⟩
            have hs2 : b + 2 ≤ w2.heap.size := by have := hB2.size; have := HSZ.out; omega
            have hbe2 := (hB2.block (b + 1) (by have := HSZ.out; omega)).trans HBE.out
            have hbr2 := (hB2.block b (by have := HSZ.out; omega)).trans HBR.out
            have hBw : Below b w w2 := HB.out.trans (hB2.mono (by have := HSZ.out; omega))
            obtain ⟨⟨m0, m1, m2, m3, m4, m5, m6, m7⟩, z0, z1, z2, z3, z4, z5, z6, z7⟩ := box8 hbe2
            have HBE2 := Lib.hid hbe2
            have HBR2 := Lib.hid hbr2
            have HBW := Lib.hid hBw
            clear hB2 hbe2 hbr2 hBw CR c0
            go_upto_region 14 with fail
            have hg5 : w2.grownBy (w2.setCell ⟨b + 1, 7, none⟩ (.int .i64 num)) (some (b + 1)) := grown_set _ _ _ _
            have h5 : (w2.setCell ⟨b + 1, 7, none⟩ (.int .i64 num)).heap[b + 1]? = some (.cells #[.int .i64 x.n, .int .i64 0, .int .i64 0, .int .i64 0, .string ⟨#[]⟩, .int .u32 0, .slice none 0 0, .int .i64 num] 29) := by simp [World.setCell, Array.getElem?_modify, HBE2.out]
            have h5r : (w2.setCell ⟨b + 1, 7, none⟩ (.int .i64 num)).heap[b]? = some Z8 := (hg5.block b (by omega) (by simp only [ne_eq, Option.some.injEq]; omega)).trans HBR2.out
            have hB5 : Below b w (w2.setCell ⟨b + 1, 7, none⟩ (.int .i64 num)) := HBW.out.grown hg5 (by omega) (fun k hk => by simp only [Option.some.injEq] at hk; omega)
            clear hg5
            generalize (w2.setCell ⟨b + 1, 7, none⟩ (.int .i64 num)) = w5 at h5 h5r hB5 ⊢
            obtain ⟨⟨d0, d1, d2, d3, d4, d5, d6, d7⟩, _⟩ := box8 h5
            obtain ⟨⟨e0, e1, e2, e3, e4, e5, e6, e7⟩, g0, g1, g2, g3, g4, g5, g6, g7⟩ := box8 h5r
            have hfin := stored8 h5r (.int .i64 x.n) (.int .i64 0) (.int .i64 0) (.int .i64 0) (.string ⟨#[]⟩) (.int .u32 0) (.slice none 0 0) (.int .i64 num)
            have hgr : w5.grownBy _ (some b) := set8_grown (W := w5) (b := b) (.int .i64 x.n) (.int .i64 0) (.int .i64 0) (.int .i64 0) (.string ⟨#[]⟩) (.int .u32 0) (.slice none 0 0) (.int .i64 num)
            have HFIN := Lib.hid hfin
            have HGR := Lib.hid hgr
            have HB5 := Lib.hid hB5
            clear hfin hgr hB5 h5 h5r
            go_wp2_with fail
            have hfin := HFIN.out
            have hgr := HGR.out
            clear HFIN HGR d0 d1 d2 d3 d4 d5 d6 d7 e0 e1 e2 e3 e4 e5 e6 e7 g0 g1 g2 g3 g4 g5 g6 g7
            generalize ((((((((w5.setCell ⟨b, 0, none⟩ (.int .i64 x.n)).setCell ⟨b, 1, none⟩ (.int .i64 0)).setCell ⟨b, 2, none⟩ (.int .i64 0)).setCell ⟨b, 3, none⟩ (.int .i64 0)).setCell ⟨b, 4, none⟩ (.string ⟨#[]⟩)).setCell ⟨b, 5, none⟩ (.int .u32 0)).setCell ⟨b, 6, none⟩ (.slice none 0 0)).setCell ⟨b, 7, none⟩ (.int .i64 num)) = W at hfin hgr ⊢
            obtain ⟨⟨p0, p1, p2, p3, p4, p5, p6, p7⟩, _⟩ := box8 hfin
            have hWB : Below w.heap.size w W := by rw [HBB.out]; exact HB5.out.grown hgr (by have := HBB.out; have := HB5.out.size; omega) (fun k hk => by simp only [Option.some.injEq] at hk; omega)
            refine bodyPost_ret (v := .tuple #[.agg #[.int .i64 x.n, .int .i64 0, .int .i64 0, .int .i64 0, .string ⟨#[]⟩, .int .u32 0, .slice none 0 0, .int .i64 num], .bool rb]) (by simp [results, Try.results25, go_sem, p0, p1, p2, p3, p4, p5, p6, p7]) rfl ⟨⟨x.n, zeroR, [], num⟩, none, 0, 0, by rw [HRR.out, ← HRB.out, ← HOO.out]; cases rdNum f <;> rfl, ?_, hWB⟩
            intro y hy
            rw [HRR.out, HOO.out] at hy
            match o, HNUM.out, hy with
            | some n', hn', hy =>
              obtain rfl := Option.some.inj hy
              have hn2 : n' = num := hn'
              exact ⟨by rw [← hn2], OpsAt.nil _ _⟩
          · have hk2 : ((x.n : Int) == 2) = false := beq_eq_false_iff_ne.2 (by omega)
            have hk4 : ((x.n : Int) == 4) = true := beq_iff_eq.2 k2
            clear k2
            go_wp2_with fail
            refine CR.out.mono ?_
            rintro e w2 ⟨rfl, hB2⟩
            have hs2 : b + 2 ≤ w2.heap.size := by have := hB2.size; have := HSZ.out; omega
            have hbe2 := (hB2.block (b + 1) (by have := HSZ.out; omega)).trans HBE.out
            have hbr2 := (hB2.block b (by have := HSZ.out; omega)).trans HBR.out
            have hBw : Below b w w2 := HB.out.trans (hB2.mono (by have := HSZ.out; omega))
            obtain ⟨⟨m0, m1, m2, m3, m4, m5, m6, m7⟩, z0, z1, z2, z3, z4, z5, z6, z7⟩ := box8 hbe2
            have HBE2 := Lib.hid hbe2
            have HBR2 := Lib.hid hbr2
            have HBW := Lib.hid hBw
            clear hB2 hbe2 hbr2 hBw CR c0
            go_upto_region 14 with fail
            have hg5 : w2.grownBy (w2.setCell ⟨b + 1, 7, none⟩ (.int .i64 num)) (some (b + 1)) := grown_set _ _ _ _
            have h5 : (w2.setCell ⟨b + 1, 7, none⟩ (.int .i64 num)).heap[b + 1]? = some (.cells #[.int .i64 x.n, .int .i64 0, .int .i64 0, .int .i64 0, .string ⟨#[]⟩, .int .u32 0, .slice none 0 0, .int .i64 num] 29) := by simp [World.setCell, Array.getElem?_modify, HBE2.out]
            have h5r : (w2.setCell ⟨b + 1, 7, none⟩ (.int .i64 num)).heap[b]? = some Z8 := (hg5.block b (by omega) (by simp only [ne_eq, Option.some.injEq]; omega)).trans HBR2.out
            have hB5 : Below b w (w2.setCell ⟨b + 1, 7, none⟩ (.int .i64 num)) := HBW.out.grown hg5 (by omega) (fun k hk => by simp only [Option.some.injEq] at hk; omega)
            clear hg5
            generalize (w2.setCell ⟨b + 1, 7, none⟩ (.int .i64 num)) = w5 at h5 h5r hB5 ⊢
            obtain ⟨⟨d0, d1, d2, d3, d4, d5, d6, d7⟩, _⟩ := box8 h5
            obtain ⟨⟨e0, e1, e2, e3, e4, e5, e6, e7⟩, g0, g1, g2, g3, g4, g5, g6, g7⟩ := box8 h5r
            have hfin := stored8 h5r (.int .i64 x.n) (.int .i64 0) (.int .i64 0) (.int .i64 0) (.string ⟨#[]⟩) (.int .u32 0) (.slice none 0 0) (.int .i64 num)
            have hgr : w5.grownBy _ (some b) := set8_grown (W := w5) (b := b) (.int .i64 x.n) (.int .i64 0) (.int .i64 0) (.int .i64 0) (.string ⟨#[]⟩) (.int .u32 0) (.slice none 0 0) (.int .i64 num)
            have HFIN := Lib.hid hfin
            have HGR := Lib.hid hgr
            have HB5 := Lib.hid hB5
            clear hfin hgr hB5 h5 h5r
            go_wp2_with fail
            have hfin := HFIN.out
            have hgr := HGR.out
            clear HFIN HGR d0 d1 d2 d3 d4 d5 d6 d7 e0 e1 e2 e3 e4 e5 e6 e7 g0 g1 g2 g3 g4 g5 g6 g7
            generalize ((((((((w5.setCell ⟨b, 0, none⟩ (.int .i64 x.n)).setCell ⟨b, 1, none⟩ (.int .i64 0)).setCell ⟨b, 2, none⟩ (.int .i64 0)).setCell ⟨b, 3, none⟩ (.int .i64 0)).setCell ⟨b, 4, none⟩ (.string ⟨#[]⟩)).setCell ⟨b, 5, none⟩ (.int .u32 0)).setCell ⟨b, 6, none⟩ (.slice none 0 0)).setCell ⟨b, 7, none⟩ (.int .i64 num)) = W at hfin hgr ⊢
            obtain ⟨⟨p0, p1, p2, p3, p4, p5, p6, p7⟩, _⟩ := box8 hfin
            have hWB : Below w.heap.size w W := by rw [HBB.out]; exact HB5.out.grown hgr (by have := HBB.out; have := HB5.out.size; omega) (fun k hk => by simp only [Option.some.injEq] at hk; omega)
            refine bodyPost_ret (v := .tuple #[.agg #[.int .i64 x.n, .int .i64 0, .int .i64 0, .int .i64 0, .string ⟨#[]⟩, .int .u32 0, .slice none 0 0, .int .i64 num], .bool rb]) (by simp [results, Try.results25, go_sem, p0, p1, p2, p3, p4, p5, p6, p7]) rfl ⟨⟨x.n, zeroR, [], num⟩, none, 0, 0, by rw [HRR.out, ← HRB.out, ← HOO.out]; cases rdNum f <;> rfl, ?_, hWB⟩
            intro y hy
            rw [HRR.out, HOO.out] at hy
            match o, HNUM.out, hy with
            | some n', hn', hy =>
              obtain rfl := Option.some.inj hy
              have hn2 : n' = num := hn'
              exact ⟨by rw [← hn2], OpsAt.nil _ _⟩
          · have hk2 : ((x.n : Int) == 2) = false := beq_eq_false_iff_ne.2 (by omega)
            have hk4 : ((x.n : Int) == 4) = false := beq_eq_false_iff_ne.2 (by omega)
            have hk5 : ((x.n : Int) == 5) = true := beq_iff_eq.2 k2
            clear k2
            go_wp2_with fail
            refine CR.out.mono ?_
            rintro e w2 ⟨rfl, hB2⟩
            have hs2 : b + 2 ≤ w2.heap.size := by have := hB2.size; have := HSZ.out; omega
            have hbe2 := (hB2.block (b + 1) (by have := HSZ.out; omega)).trans HBE.out
            have hbr2 := (hB2.block b (by have := HSZ.out; omega)).trans HBR.out
            have hBw : Below b w w2 := HB.out.trans (hB2.mono (by have := HSZ.out; omega))
            obtain ⟨⟨m0, m1, m2, m3, m4, m5, m6, m7⟩, z0, z1, z2, z3, z4, z5, z6, z7⟩ := box8 hbe2
            have HBE2 := Lib.hid hbe2
            have HBR2 := Lib.hid hbr2
            have HBW := Lib.hid hBw
            clear hB2 hbe2 hbr2 hBw CR c0
            go_upto_region 14 with fail
            have hg5 : w2.grownBy (w2.setCell ⟨b + 1, 7, none⟩ (.int .i64 num)) (some (b + 1)) := grown_set _ _ _ _
            have h5 : (w2.setCell ⟨b + 1, 7, none⟩ (.int .i64 num)).heap[b + 1]? = some (.cells #[.int .i64 x.n, .int .i64 0, .int .i64 0, .int .i64 0, .string ⟨#[]⟩, .int .u32 0, .slice none 0 0, .int .i64 num] 29) := by simp [World.setCell, Array.getElem?_modify, HBE2.out]
            have h5r : (w2.setCell ⟨b + 1, 7, none⟩ (.int .i64 num)).heap[b]? = some Z8 := (hg5.block b (by omega) (by simp only [ne_eq, Option.some.injEq]; omega)).trans HBR2.out
            have hB5 : Below b w (w2.setCell ⟨b + 1, 7, none⟩ (.int .i64 num)) := HBW.out.grown hg5 (by omega) (fun k hk => by simp only [Option.some.injEq] at hk; omega)
            clear hg5
            generalize (w2.setCell ⟨b + 1, 7, none⟩ (.int .i64 num)) = w5 at h5 h5r hB5 ⊢
            obtain ⟨⟨d0, d1, d2, d3, d4, d5, d6, d7⟩, _⟩ := box8 h5
            obtain ⟨⟨e0, e1, e2, e3, e4, e5, e6, e7⟩, g0, g1, g2, g3, g4, g5, g6, g7⟩ := box8 h5r
            have hfin := stored8 h5r (.int .i64 x.n) (.int .i64 0) (.int .i64 0) (.int .i64 0) (.string ⟨#[]⟩) (.int .u32 0) (.slice none 0 0) (.int .i64 num)
            have hgr : w5.grownBy _ (some b) := set8_grown (W := w5) (b := b) (.int .i64 x.n) (.int .i64 0) (.int .i64 0) (.int .i64 0) (.string ⟨#[]⟩) (.int .u32 0) (.slice none 0 0) (.int .i64 num)
            have HFIN := Lib.hid hfin
            have HGR := Lib.hid hgr
            have HB5 := Lib.hid hB5
            clear hfin hgr hB5 h5 h5r
            go_wp2_with fail
            have hfin := HFIN.out
            have hgr := HGR.out
            clear HFIN HGR d0 d1 d2 d3 d4 d5 d6 d7 e0 e1 e2 e3 e4 e5 e6 e7 g0 g1 g2 g3 g4 g5 g6 g7
            generalize ((((((((w5.setCell ⟨b, 0, none⟩ (.int .i64 x.n)).setCell ⟨b, 1, none⟩ (.int .i64 0)).setCell ⟨b, 2, none⟩ (.int .i64 0)).setCell ⟨b, 3, none⟩ (.int .i64 0)).setCell ⟨b, 4, none⟩ (.string ⟨#[]⟩)).setCell ⟨b, 5, none⟩ (.int .u32 0)).setCell ⟨b, 6, none⟩ (.slice none 0 0)).setCell ⟨b, 7, none⟩ (.int .i64 num)) = W at hfin hgr ⊢
            obtain ⟨⟨p0, p1, p2, p3, p4, p5, p6, p7⟩, _⟩ := box8 hfin
            have hWB : Below w.heap.size w W := by rw [HBB.out]; exact HB5.out.grown hgr (by have := HBB.out; have := HB5.out.size; omega) (fun k hk => by simp only [Option.some.injEq] at hk; omega)
            refine bodyPost_ret (v := .tuple #[.agg #[.int .i64 x.n, .int .i64 0, .int .i64 0, .int .i64 0, .string ⟨#[]⟩, .int .u32 0, .slice none 0 0, .int .i64 num], .bool rb]) (by simp [results, Try.results25, go_sem, p0, p1, p2, p3, p4, p5, p6, p7]) rfl ⟨⟨x.n, zeroR, [], num⟩, none, 0, 0, by rw [HRR.out, ← HRB.out, ← HOO.out]; cases rdNum f <;> rfl, ?_, hWB⟩
            intro y hy
            rw [HRR.out, HOO.out] at hy
            match o, HNUM.out, hy with
            | some n', hn', hy =>
              obtain rfl := Option.some.inj hy
              have hn2 : n' = num := hn'
              exact ⟨by rw [← hn2], OpsAt.nil _ _⟩
        · have hro : ro = none := by rw [← HRO.out, rdE, if_neg k1, if_neg k3, if_neg k2]
          subst hro
          have hk2 : ((x.n : Int) == 2) = false := beq_eq_false_iff_ne.2 (by omega)
          have hk4 : ((x.n : Int) == 4) = false := beq_eq_false_iff_ne.2 (by omega)
          have hk5 : ((x.n : Int) == 5) = false := beq_eq_false_iff_ne.2 (by omega)
          clear k1 k2 k3
          go_upto_region 14 with fail
          have h5 := HBE.out
          have h5r := HBR.out
          have hB5 := HB.out
          obtain ⟨⟨d0, d1, d2, d3, d4, d5, d6, d7⟩, _⟩ := box8 h5
          obtain ⟨⟨e0, e1, e2, e3, e4, e5, e6, e7⟩, g0, g1, g2, g3, g4, g5, g6, g7⟩ := box8 h5r
          have hfin := stored8 h5r (.int .i64 x.n) (.int .i64 0) (.int .i64 0) (.int .i64 0) (.string ⟨#[]⟩) (.int .u32 0) (.slice none 0 0) (.int .i64 0)
          have hgr : w1.grownBy _ (some b) := set8_grown (W := w1) (b := b) (.int .i64 x.n) (.int .i64 0) (.int .i64 0) (.int .i64 0) (.string ⟨#[]⟩) (.int .u32 0) (.slice none 0 0) (.int .i64 0)
          have HFIN := Lib.hid hfin
          have HGR := Lib.hid hgr
          have HB5 := Lib.hid hB5
          clear hfin hgr hB5 h5 h5r
          go_wp2_with fail
          have hfin := HFIN.out
          have hgr := HGR.out
          clear HFIN HGR d0 d1 d2 d3 d4 d5 d6 d7 e0 e1 e2 e3 e4 e5 e6 e7 g0 g1 g2 g3 g4 g5 g6 g7
          generalize ((((((((w1.setCell ⟨b, 0, none⟩ (.int .i64 x.n)).setCell ⟨b, 1, none⟩ (.int .i64 0)).setCell ⟨b, 2, none⟩ (.int .i64 0)).setCell ⟨b, 3, none⟩ (.int .i64 0)).setCell ⟨b, 4, none⟩ (.string ⟨#[]⟩)).setCell ⟨b, 5, none⟩ (.int .u32 0)).setCell ⟨b, 6, none⟩ (.slice none 0 0)).setCell ⟨b, 7, none⟩ (.int .i64 0)) = W at hfin hgr ⊢
          obtain ⟨⟨p0, p1, p2, p3, p4, p5, p6, p7⟩, _⟩ := box8 hfin
          have hWB : Below w.heap.size w W := by rw [HBB.out]; exact HB5.out.grown hgr (by have := HBB.out; have := HB5.out.size; omega) (fun k hk => by simp only [Option.some.injEq] at hk; omega)
          refine bodyPost_ret (v := .tuple #[.agg #[.int .i64 x.n, .int .i64 0, .int .i64 0, .int .i64 0, .string ⟨#[]⟩, .int .u32 0, .slice none 0 0, .int .i64 0], .bool false]) (by simp [results, Try.results25, go_sem, p0, p1, p2, p3, p4, p5, p6, p7]) rfl ⟨⟨x.n, zeroR, [], 0⟩, none, 0, 0, rfl, ?_, hWB⟩
          exact fun y hy => by cases hy

end Go.Proofs.Ytffehnojcajhiaa.Wire.Entry
