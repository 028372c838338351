/-
  Contract of readOp: its seven fields. Contract of readOp, whatever the item.
-/
import Derived.Test.YtffehnojcajhiaaEgF
import Derived.Laws.EntriesVeiled
namespace Go.Proofs.Ytffehnojcajhiaa.Wire.Entry
open Go Go.RowKit Go.Proofs.Ytffehnojcajhiaa.Law

set_option maxRecDepth 100000 in
set_option maxHeartbeats 20000000 in
theorem readOp_long (x xk xi xa xm xr xt xl : Item) (hx : x.kids = [xk, xi, xa, xm, xr, xt, xl]) (hxi : xi.kids.length ≤ 1048576) (A : Option Addr) (c : Nat) (w : World) (h : Old w.heap.size w (.slice A 7 c) x.kids) :
    Calls Try.prog 62 #[.agg #[.int .i64 x.kind, .int .i64 x.n, .string x.s, .slice A 7 c]] w (RetOpr w (rdOp x)) := by
  obtain ⟨b, hb⟩ : ∃ b, w.heap.size = b := ⟨_, rfl⟩
  rw [hx] at h
  obtain ⟨ib, io, rfl, hib, hcells⟩ := h.at (by omega)
  have hib2 : ib < b := by omega
  obtain ⟨q0, hq0⟩ : ∃ q : Bool, ((xi.kind : Int) == 2) = q := ⟨_, rfl⟩
  obtain ⟨v0, h0, i0⟩ := hcells 0 xk rfl
  obtain ⟨A0, c0, rfl, _⟩ := i0.form
  obtain ⟨v1, h1, i1⟩ := hcells 1 xi rfl
  obtain ⟨A1, c1, rfl, _⟩ := i1.form
  obtain ⟨v2, h2, i2⟩ := hcells 2 xa rfl
  obtain ⟨A2, c2, rfl, _⟩ := i2.form
  obtain ⟨v3, h3, i3⟩ := hcells 3 xm rfl
  obtain ⟨A3, c3, rfl, _⟩ := i3.form
  obtain ⟨v4, h4, i4⟩ := hcells 4 xr rfl
  obtain ⟨A4, c4, rfl, _⟩ := i4.form
  obtain ⟨v5, h5, i5⟩ := hcells 5 xt rfl
  obtain ⟨A5, c5, rfl, _⟩ := i5.form
  obtain ⟨v6, h6, i6⟩ := hcells 6 xl rfl
  obtain ⟨A6, c6, rfl, _⟩ := i6.form
  have HI1 := Lib.hid i1
  obtain ⟨l0, hl0⟩ : ∃ l, xk.kids.length = l := ⟨_, rfl⟩
  rw [hl0] at h0
  obtain ⟨l1, hl1⟩ : ∃ l, xi.kids.length = l := ⟨_, rfl⟩
  obtain ⟨l2, hl2⟩ : ∃ l, xa.kids.length = l := ⟨_, rfl⟩
  rw [hl2] at h2
  obtain ⟨l3, hl3⟩ : ∃ l, xm.kids.length = l := ⟨_, rfl⟩
  rw [hl3] at h3
  obtain ⟨l4, hl4⟩ : ∃ l, xr.kids.length = l := ⟨_, rfl⟩
  rw [hl4] at h4
  obtain ⟨l5, hl5⟩ : ∃ l, xt.kids.length = l := ⟨_, rfl⟩
  rw [hl5] at h5
  obtain ⟨l6, hl6⟩ : ∃ l, xl.kids.length = l := ⟨_, rfl⟩
  rw [hl6] at h6
  rw [hl1] at h1 HI1
  simp only [Nat.zero_mul, Nat.add_zero, Nat.one_mul, Nat.reduceMul] at h0 h1 h2 h3 h4 h5 h6
  clear i0 i1 i2 i3 i4 i5 i6 hcells h
  have hs : ((((w.alloc (.cells #[.int .i64 x.kind, .int .i64 x.n, .string x.s, .slice (some ⟨ib, io, none⟩) 7 c] 71)).alloc Z7).alloc (.cells #[.bool q0] 4)).alloc (.cells #[.func (.func 70) #[] #[.pointer (some ⟨b + 1 + 1, 0, none⟩)]] 126)).heap.size = b + 4 := by simp [hb]
  have hB : Below b w ((((w.alloc (.cells #[.int .i64 x.kind, .int .i64 x.n, .string x.s, .slice (some ⟨ib, io, none⟩) 7 c] 71)).alloc Z7).alloc (.cells #[.bool q0] 4)).alloc (.cells #[.func (.func 70) #[] #[.pointer (some ⟨b + 1 + 1, 0, none⟩)]] 126)) := by
    rw [← hb]
    exact ((((Below.refl _ _).alloc (Nat.le_refl _) _).alloc (by simp) _).alloc (by simp; omega) _).alloc (by simp; omega) _
  have hZ : ((((w.alloc (.cells #[.int .i64 x.kind, .int .i64 x.n, .string x.s, .slice (some ⟨ib, io, none⟩) 7 c] 71)).alloc Z7).alloc (.cells #[.bool q0] 4)).alloc (.cells #[.func (.func 70) #[] #[.pointer (some ⟨b + 1 + 1, 0, none⟩)]] 126)).heap[b + 1]? = some Z7 := by
    have h1 := heap_alloc_new (w.alloc (.cells #[.int .i64 x.kind, .int .i64 x.n, .string x.s, .slice (some ⟨ib, io, none⟩) 7 c] 71)) Z7
    rw [World.size_alloc, hb] at h1
    exact ((((Below.refl _ _).alloc (Nat.le_refl _) (.cells #[.bool q0] 4)).alloc (by simp) (.cells #[.func (.func 70) #[] #[.pointer (some ⟨b + 1 + 1, 0, none⟩)]] 126)).block (b + 1) (by simp [hb])).trans h1
  have hQ : BoolAt ((((w.alloc (.cells #[.int .i64 x.kind, .int .i64 x.n, .string x.s, .slice (some ⟨ib, io, none⟩) 7 c] 71)).alloc Z7).alloc (.cells #[.bool q0] 4)).alloc (.cells #[.func (.func 70) #[] #[.pointer (some ⟨b + 1 + 1, 0, none⟩)]] 126)) (b + 1 + 1) q0 := by
    have h1 := heap_alloc_new ((w.alloc (.cells #[.int .i64 x.kind, .int .i64 x.n, .string x.s, .slice (some ⟨ib, io, none⟩) 7 c] 71)).alloc Z7) (.cells #[.bool q0] 4)
    rw [World.size_alloc, World.size_alloc, hb] at h1
    exact (((Below.refl _ _).alloc (Nat.le_refl _) (.cells #[.func (.func 70) #[] #[.pointer (some ⟨b + 1 + 1, 0, none⟩)]] 126)).block (b + 1 + 1) (by simp [hb])).trans h1
  have hF : FuncAt ((((w.alloc (.cells #[.int .i64 x.kind, .int .i64 x.n, .string x.s, .slice (some ⟨ib, io, none⟩) 7 c] 71)).alloc Z7).alloc (.cells #[.bool q0] 4)).alloc (.cells #[.func (.func 70) #[] #[.pointer (some ⟨b + 1 + 1, 0, none⟩)]] 126)) (b + 1 + 1 + 1) (b + 1 + 1) := by
    have h1 := heap_alloc_new (((w.alloc (.cells #[.int .i64 x.kind, .int .i64 x.n, .string x.s, .slice (some ⟨ib, io, none⟩) 7 c] 71)).alloc Z7).alloc (.cells #[.bool q0] 4)) (.cells #[.func (.func 70) #[] #[.pointer (some ⟨b + 1 + 1, 0, none⟩)]] 126)
    rw [World.size_alloc, World.size_alloc, World.size_alloc, hb] at h1
    exact h1
  have HS := Lib.hid hs
  have HB := Lib.hid hB
  have HZ := Lib.hid hZ
  have HQ := Lib.hid hQ
  have HF := Lib.hid hF
  have HBB := Lib.hid hb
  have HX : Hid (∀ W, Below b w W → FuncAt W (b + 1 + 1 + 1) (b + 1 + 1) → Six W ib io xk xa xm xr xt xl A0 A2 A3 A4 A5 A6 l0 l2 l3 l4 l5 l6 c0 c2 c3 c4 c5 c6 (b + 1 + 1 + 1) (b + 1 + 1)) := Lib.hid fun W hW hFW =>
    have e := hW.block ib (by omega)
    ⟨h0.keep e, h2.keep e, h3.keep e, h4.keep e, h5.keep e, h6.keep e, hFW⟩
  have H1 : Hid (∀ W, Below b w W → Cells4 W ib (io + 4) xi (.slice A1 l1 c1)) := Lib.hid fun W hW => h1.keep (hW.block ib (by omega))
  have i1 := h1
  obtain ⟨m0, m1, m2, m3⟩ := h1
  have HQ0 := Lib.hid hq0
  clear hs hB hZ hQ hF h0 h2 h3 h4 h5 h6 i1
  go_enter Try.func62, Try.ntmps62
  go_upto_region 7 with fail
  have hs := HS.out
  have hB := HB.out
  have hZ := HZ.out
  have hQ := HQ.out
  have hF := HF.out
  clear HS HB HZ HQ HF hq0 m0 m1 m2 m3
  generalize ((((w.alloc (.cells #[.int .i64 x.kind, .int .i64 x.n, .string x.s, .slice (some ⟨ib, io, none⟩) 7 c] 71)).alloc Z7).alloc (.cells #[.bool q0] 4)).alloc (.cells #[.func (.func 70) #[] #[.pointer (some ⟨b + 1 + 1, 0, none⟩)]] 126)) = w1 at hs hB hZ hQ hF ⊢
  have hs4 : b + 1 + 1 < w1.heap.size := by omega
  obtain ⟨rk, hrk⟩ : ∃ q : Bool, ((xk.kind : Int) == 0) = q := ⟨_, rfl⟩
  have HRK := Lib.hid hrk
  obtain ⟨ra, hra⟩ : ∃ q : Bool, ((xa.kind : Int) == 0) = q := ⟨_, rfl⟩
  have HRA := Lib.hid hra
  obtain ⟨rm, hrm⟩ : ∃ q : Bool, ((xm.kind : Int) == 0) = q := ⟨_, rfl⟩
  have HRM := Lib.hid hrm
  obtain ⟨rr, hrr⟩ : ∃ q : Bool, ((xr.kind : Int) == 0) = q := ⟨_, rfl⟩
  have HRR := Lib.hid hrr
  obtain ⟨rt, hrt⟩ : ∃ q : Bool, ((xt.kind : Int) == 0) = q := ⟨_, rfl⟩
  have HRT := Lib.hid hrt
  obtain ⟨rl, hrl⟩ : ∃ q : Bool, ((xl.kind : Int) == 0) = q := ⟨_, rfl⟩
  have HRL := Lib.hid hrl
  obtain ⟨vm, hvm⟩ : ∃ v, (xm.n % 4294967296).toNat = v := ⟨_, rfl⟩
  obtain ⟨sm, hsm⟩ : ∃ q, (small xm.n).isSome = q := ⟨_, rfl⟩
  have HVM := Lib.hid hvm
  have HSM := Lib.hid hsm
  obtain ⟨vl, hvl⟩ : ∃ v, (xl.n % 4294967296).toNat = v := ⟨_, rfl⟩
  obtain ⟨sl, hsl⟩ : ∃ q, (small xl.n).isSome = q := ⟨_, rfl⟩
  have HVL := Lib.hid hvl
  have HSL := Lib.hid hsl
  clear hrk hra hrm hrr hrt hrl hvm hsm hvl hsl
  have HXX : Hid (∀ W, w1.grownBy W (some (b + 1 + 1)) → Six W ib io xk xa xm xr xt xl A0 A2 A3 A4 A5 A6 l0 l2 l3 l4 l5 l6 c0 c2 c3 c4 c5 c6 (b + 1 + 1 + 1) (b + 1 + 1)) := Lib.hid fun W hW =>
    have hBW : Below b w W := hB.grown hW (by omega) (fun k hk => by simp only [Option.some.injEq] at hk; omega)
    HX.out W hBW ((hW.block (b + 1 + 1 + 1) (by omega) (by simp only [ne_eq, Option.some.injEq]; omega)).trans hF)
  have HFX : Hid (∀ W, w1.grownBy W (some (b + 1 + 1)) → FuncAt W (b + 1 + 1 + 1) (b + 1 + 1)) := Lib.hid fun W hW => (hW.block (b + 1 + 1 + 1) (by omega) (by simp only [ne_eq, Option.some.injEq]; omega)).trans hF
  have HBW := Lib.hid hB
  have HZW := Lib.hid hZ
  have HQW := Lib.hid hQ
  have HFW := Lib.hid hF
  have HSW := Lib.hid hs
  clear hB hZ hQ hF hs
  go_cut [8] (fun p8 wx => ∃ ob, p8 = .pointer (some ⟨ob, 0, none⟩) ∧ Hid (OpS w1 wx (b + 1 + 1) ob ((((((q0 && rk) && ra) && rm && sm) && rr) && rt) && rl && sl) ⟨xk.n, [], xa.n, vm, xr.n, xt.n, vl⟩))
  case first =>
    have T : Hid (w1.grownBy w1.drew (some (b + 1 + 1))) := Lib.hid ⟨rfl, rfl, rfl, Nat.le_refl _, fun _ _ _ => rfl⟩
    have Q : Hid (BoolAt w1.drew (b + 1 + 1) q0) := Lib.hid HQW.out
    refine wp_region_noPanic ?_
    refine wp_region_held_float (C := fun w' => w1.grownBy w' (some (b + 1 + 1))) [0, 1, 2, 3, 5, 6, 7, 8, 10, 11, 12, 13, 15, 16, 17, 18, 20, 21, 22, 23, 25, 26, 27, 28] [4, 9, 14, 19, 24, 29, 30, 32] 31 32 (by kernel_rfl) (by kernel_rfl) (fun _ _ _ _ _ h => h) ?_ ?_
    · exact T.out
    iterate 24
      refine heldI_step (v := ?_) rfl (by rfl) (fun w' hw' => ?_) ?_
      rotate_left
      · obtain ⟨⟨k0, k1, k2, k3⟩, ⟨m0, m1, m2, m3⟩, ⟨n0, n1, n2, n3⟩, ⟨o0, o1, o2, o3⟩, ⟨p0, p1, p2, p3⟩, ⟨s0, s1, s2, s3⟩, hf⟩ := HXX.out w' hw'
        have f0 := hf.cell
        clear hf
        go_simp
        all_goals with_reducible rfl
      simp only [Act.put, List.getElem_toArray, List.getElem_cons_succ, List.getElem_cons_zero, List.setIfInBounds_toArray, List.set_cons_succ, List.set_cons_zero]
    refine heldI_nil ?_
    refine floatI_step rfl rfl ?_ ?_
    · trace "F0"
      go_wp2_with fail
      have T1 : Hid (w1.grownBy (w1.alloc Z7).drew (some (b + 1 + 1))) := Lib.hid (T.out.trans (World.grownBy_alloc w1.drew Z7 _))
      have Q1 : Hid (BoolAt (w1.alloc Z7).drew (b + 1 + 1) q0) := Lib.hid (Q.out.alloc Z7)
      have ZZ1 : Hid ((w1.alloc Z7).drew.heap[w1.heap.size]? = some Z7 ∧ w1.heap.size ≤ w1.heap.size ∧ w1.heap.size < (w1.alloc Z7).drew.heap.size) := Lib.hid ⟨heap_alloc_new w1 _, Nat.le_refl _, by simp⟩
      refine ⟨T1.out, ?_⟩
      refine seqI_step rfl ?_
      go_wp2_with (go_at_call 70; ((with_reducible refine (number_calls xk.kind xk.n xk.s A0 l0 c0 (b + 1 + 1) _ rk HRK.out _ Q1.out).mono ?_); rintro e W2 ⟨rfl, hG, hBo⟩))
      have T2 := Lib.hid (T1.out.trans hG)
      have Q2 := Lib.hid hBo
      have ZZ2 : Hid (W2.heap[w1.heap.size]? = some Z7 ∧ w1.heap.size ≤ w1.heap.size ∧ w1.heap.size < W2.heap.size) := Lib.hid ⟨(hG.block _ ZZ1.out.2.2 (by have := ZZ1.out.2.1; simp only [ne_eq, Option.some.injEq]; omega)).trans ZZ1.out.1, ZZ1.out.2.1, Nat.lt_of_lt_of_le ZZ1.out.2.2 hG.size⟩
      refine ⟨T2.out, ?_⟩
      clear hG hBo
      refine seqI_step rfl ?_
      go_wp2_with (go_at_call 70; ((with_reducible refine (number_calls xa.kind xa.n xa.s A2 l2 c2 (b + 1 + 1) _ ra HRA.out _ Q2.out).mono ?_); rintro e W3 ⟨rfl, hG, hBo⟩))
      have T3 := Lib.hid (T2.out.trans hG)
      have Q3 := Lib.hid hBo
      have ZZ3 : Hid (W3.heap[w1.heap.size]? = some Z7 ∧ w1.heap.size ≤ w1.heap.size ∧ w1.heap.size < W3.heap.size) := Lib.hid ⟨(hG.block _ ZZ2.out.2.2 (by have := ZZ2.out.2.1; simp only [ne_eq, Option.some.injEq]; omega)).trans ZZ2.out.1, ZZ2.out.2.1, Nat.lt_of_lt_of_le ZZ2.out.2.2 hG.size⟩
      refine ⟨T3.out, ?_⟩
      clear hG hBo
      refine seqI_step rfl ?_
      go_wp2_with (go_at_call 71; ((with_reducible refine (smallNumber_calls xm.kind xm.n xm.s A3 l3 c3 (b + 1 + 1) (b + 1 + 1 + 1) _ rm sm HRM.out vm HVM.out HSM.out _ Q3.out (HFX.out _ T3.out)).mono ?_); rintro e W4 ⟨rfl, hG, hBo⟩))
      have T4 := Lib.hid (T3.out.trans hG)
      have Q4 := Lib.hid hBo
      have ZZ4 : Hid (W4.heap[w1.heap.size]? = some Z7 ∧ w1.heap.size ≤ w1.heap.size ∧ w1.heap.size < W4.heap.size) := Lib.hid ⟨(hG.block _ ZZ3.out.2.2 (by have := ZZ3.out.2.1; simp only [ne_eq, Option.some.injEq]; omega)).trans ZZ3.out.1, ZZ3.out.2.1, Nat.lt_of_lt_of_le ZZ3.out.2.2 hG.size⟩
      refine ⟨T4.out, ?_⟩
      clear hG hBo
      refine seqI_step rfl ?_
      go_wp2_with (go_at_call 70; ((with_reducible refine (number_calls xr.kind xr.n xr.s A4 l4 c4 (b + 1 + 1) _ rr HRR.out _ Q4.out).mono ?_); rintro e W5 ⟨rfl, hG, hBo⟩))
      have T5 := Lib.hid (T4.out.trans hG)
      have Q5 := Lib.hid hBo
      have ZZ5 : Hid (W5.heap[w1.heap.size]? = some Z7 ∧ w1.heap.size ≤ w1.heap.size ∧ w1.heap.size < W5.heap.size) := Lib.hid ⟨(hG.block _ ZZ4.out.2.2 (by have := ZZ4.out.2.1; simp only [ne_eq, Option.some.injEq]; omega)).trans ZZ4.out.1, ZZ4.out.2.1, Nat.lt_of_lt_of_le ZZ4.out.2.2 hG.size⟩
      refine ⟨T5.out, ?_⟩
      clear hG hBo
      refine seqI_step rfl ?_
      go_wp2_with (go_at_call 70; ((with_reducible refine (number_calls xt.kind xt.n xt.s A5 l5 c5 (b + 1 + 1) _ rt HRT.out _ Q5.out).mono ?_); rintro e W6 ⟨rfl, hG, hBo⟩))
      have T6 := Lib.hid (T5.out.trans hG)
      have Q6 := Lib.hid hBo
      have ZZ6 : Hid (W6.heap[w1.heap.size]? = some Z7 ∧ w1.heap.size ≤ w1.heap.size ∧ w1.heap.size < W6.heap.size) := Lib.hid ⟨(hG.block _ ZZ5.out.2.2 (by have := ZZ5.out.2.1; simp only [ne_eq, Option.some.injEq]; omega)).trans ZZ5.out.1, ZZ5.out.2.1, Nat.lt_of_lt_of_le ZZ5.out.2.2 hG.size⟩
      refine ⟨T6.out, ?_⟩
      clear hG hBo
      refine seqI_step rfl ?_
      go_wp2_with (go_at_call 71; ((with_reducible refine (smallNumber_calls xl.kind xl.n xl.s A6 l6 c6 (b + 1 + 1) (b + 1 + 1 + 1) _ rl sl HRL.out vl HVL.out HSL.out _ Q6.out (HFX.out _ T6.out)).mono ?_); rintro e W7 ⟨rfl, hG, hBo⟩))
      have T7 := Lib.hid (T6.out.trans hG)
      have Q7 := Lib.hid hBo
      have ZZ7 : Hid (W7.heap[w1.heap.size]? = some Z7 ∧ w1.heap.size ≤ w1.heap.size ∧ w1.heap.size < W7.heap.size) := Lib.hid ⟨(hG.block _ ZZ6.out.2.2 (by have := ZZ6.out.2.1; simp only [ne_eq, Option.some.injEq]; omega)).trans ZZ6.out.1, ZZ6.out.2.1, Nat.lt_of_lt_of_le ZZ6.out.2.2 hG.size⟩
      refine ⟨T7.out, ?_⟩
      clear hG hBo
      refine seqI_step rfl ?_
      go_wp2_with fail
      refine ⟨T7.out, ?_⟩
      obtain ⟨hz, hz1, hz2⟩ := ZZ7.out
      obtain ⟨⟨y0, y1, y2, y3, y4, y5, y6⟩, x0, x1, x2, x3, x4, x5, x6⟩ := box7 hz
      have hne : (b + 1 + 1) ≠ w1.heap.size := by omega
      have hfin : OpS w1 (((((((W7.setCell ⟨w1.heap.size, 0, none⟩ (.int .i64 xk.n)).setCell ⟨w1.heap.size, 1, none⟩ (.slice none 0 0)).setCell ⟨w1.heap.size, 2, none⟩ (.int .i64 xa.n)).setCell ⟨w1.heap.size, 3, none⟩ (.int .u32 (vm : Nat))).setCell ⟨w1.heap.size, 4, none⟩ (.int .i64 xr.n)).setCell ⟨w1.heap.size, 5, none⟩ (.int .i64 xt.n)).setCell ⟨w1.heap.size, 6, none⟩ (.int .u32 (vl : Nat))) (b + 1 + 1) w1.heap.size ((((((q0 && rk) && ra) && rm && sm) && rr) && rt) && rl && sl) ⟨xk.n, [], xa.n, vm, xr.n, xt.n, vl⟩ :=
        ⟨grown_over T7.out (set7_grown _ _ _ _ _ _ _) hz1, (set7_other hne _ _ _ _ _ _ _).trans Q7.out, hz1, stored7 hz _ _ _ _ _ _ _⟩
      have HFIN := Lib.hid hfin
      clear hfin hz
      refine seqI_last rfl ?_
      go_wp2_with fail
      refine NoPanic.normal ?_
      go_wp2_with fail
      go_meet
      exact ⟨_, rfl, HFIN⟩
    · go_wp2_with (go_at_call 70; ((with_reducible refine (number_calls xk.kind xk.n xk.s A0 l0 c0 (b + 1 + 1) _ rk HRK.out _ Q.out).mono ?_); rintro e W9 ⟨rfl, hG, hBo⟩))
      have T9 := Lib.hid (T.out.trans hG)
      have Q9 := Lib.hid hBo
      refine ⟨T9.out, ?_⟩
      clear hG hBo
      refine floatI_step rfl rfl ?_ ?_
      · trace "F1"
        go_wp2_with fail
        have T10 := Lib.hid (T9.out.trans (World.grownBy_alloc W9 Z7 _))
        have Q10 := Lib.hid (Q9.out.alloc Z7)
        have ZZ10 : Hid ((W9.alloc Z7).heap[W9.heap.size]? = some Z7 ∧ w1.heap.size ≤ W9.heap.size ∧ W9.heap.size < (W9.alloc Z7).heap.size) := Lib.hid ⟨heap_alloc_new _ _, T9.out.size, by simp⟩
        refine ⟨T10.out, ?_⟩
        refine seqI_step rfl ?_
        go_wp2_with (go_at_call 70; ((with_reducible refine (number_calls xa.kind xa.n xa.s A2 l2 c2 (b + 1 + 1) _ ra HRA.out _ Q10.out).mono ?_); rintro e W11 ⟨rfl, hG, hBo⟩))
        have T11 := Lib.hid (T10.out.trans hG)
        have Q11 := Lib.hid hBo
        have ZZ11 : Hid (W11.heap[W9.heap.size]? = some Z7 ∧ w1.heap.size ≤ W9.heap.size ∧ W9.heap.size < W11.heap.size) := Lib.hid ⟨(hG.block _ ZZ10.out.2.2 (by have := ZZ10.out.2.1; simp only [ne_eq, Option.some.injEq]; omega)).trans ZZ10.out.1, ZZ10.out.2.1, Nat.lt_of_lt_of_le ZZ10.out.2.2 hG.size⟩
        refine ⟨T11.out, ?_⟩
        clear hG hBo
        refine seqI_step rfl ?_
        go_wp2_with (go_at_call 71; ((with_reducible refine (smallNumber_calls xm.kind xm.n xm.s A3 l3 c3 (b + 1 + 1) (b + 1 + 1 + 1) _ rm sm HRM.out vm HVM.out HSM.out _ Q11.out (HFX.out _ T11.out)).mono ?_); rintro e W12 ⟨rfl, hG, hBo⟩))
        have T12 := Lib.hid (T11.out.trans hG)
        have Q12 := Lib.hid hBo
        have ZZ12 : Hid (W12.heap[W9.heap.size]? = some Z7 ∧ w1.heap.size ≤ W9.heap.size ∧ W9.heap.size < W12.heap.size) := Lib.hid ⟨(hG.block _ ZZ11.out.2.2 (by have := ZZ11.out.2.1; simp only [ne_eq, Option.some.injEq]; omega)).trans ZZ11.out.1, ZZ11.out.2.1, Nat.lt_of_lt_of_le ZZ11.out.2.2 hG.size⟩
        refine ⟨T12.out, ?_⟩
        clear hG hBo
        refine seqI_step rfl ?_
        go_wp2_with (go_at_call 70; ((with_reducible refine (number_calls xr.kind xr.n xr.s A4 l4 c4 (b + 1 + 1) _ rr HRR.out _ Q12.out).mono ?_); rintro e W13 ⟨rfl, hG, hBo⟩))
        have T13 := Lib.hid (T12.out.trans hG)
        have Q13 := Lib.hid hBo
        have ZZ13 : Hid (W13.heap[W9.heap.size]? = some Z7 ∧ w1.heap.size ≤ W9.heap.size ∧ W9.heap.size < W13.heap.size) := Lib.hid ⟨(hG.block _ ZZ12.out.2.2 (by have := ZZ12.out.2.1; simp only [ne_eq, Option.some.injEq]; omega)).trans ZZ12.out.1, ZZ12.out.2.1, Nat.lt_of_lt_of_le ZZ12.out.2.2 hG.size⟩
        refine ⟨T13.out, ?_⟩
        clear hG hBo
        refine seqI_step rfl ?_
        go_wp2_with (go_at_call 70; ((with_reducible refine (number_calls xt.kind xt.n xt.s A5 l5 c5 (b + 1 + 1) _ rt HRT.out _ Q13.out).mono ?_); rintro e W14 ⟨rfl, hG, hBo⟩))
        have T14 := Lib.hid (T13.out.trans hG)
        have Q14 := Lib.hid hBo
        have ZZ14 : Hid (W14.heap[W9.heap.size]? = some Z7 ∧ w1.heap.size ≤ W9.heap.size ∧ W9.heap.size < W14.heap.size) := Lib.hid ⟨(hG.block _ ZZ13.out.2.2 (by have := ZZ13.out.2.1; simp only [ne_eq, Option.some.injEq]; omega)).trans ZZ13.out.1, ZZ13.out.2.1, Nat.lt_of_lt_of_le ZZ13.out.2.2 hG.size⟩
        refine ⟨T14.out, ?_⟩
        clear hG hBo
        refine seqI_step rfl ?_
        go_wp2_with (go_at_call 71; ((with_reducible refine (smallNumber_calls xl.kind xl.n xl.s A6 l6 c6 (b + 1 + 1) (b + 1 + 1 + 1) _ rl sl HRL.out vl HVL.out HSL.out _ Q14.out (HFX.out _ T14.out)).mono ?_); rintro e W15 ⟨rfl, hG, hBo⟩))
        have T15 := Lib.hid (T14.out.trans hG)
        have Q15 := Lib.hid hBo
        have ZZ15 : Hid (W15.heap[W9.heap.size]? = some Z7 ∧ w1.heap.size ≤ W9.heap.size ∧ W9.heap.size < W15.heap.size) := Lib.hid ⟨(hG.block _ ZZ14.out.2.2 (by have := ZZ14.out.2.1; simp only [ne_eq, Option.some.injEq]; omega)).trans ZZ14.out.1, ZZ14.out.2.1, Nat.lt_of_lt_of_le ZZ14.out.2.2 hG.size⟩
        refine ⟨T15.out, ?_⟩
        clear hG hBo
        refine seqI_step rfl ?_
        go_wp2_with fail
        refine ⟨T15.out, ?_⟩
        obtain ⟨hz, hz1, hz2⟩ := ZZ15.out
        obtain ⟨⟨y0, y1, y2, y3, y4, y5, y6⟩, x0, x1, x2, x3, x4, x5, x6⟩ := box7 hz
        have hne : (b + 1 + 1) ≠ W9.heap.size := by omega
        have hfin : OpS w1 (((((((W15.setCell ⟨W9.heap.size, 0, none⟩ (.int .i64 xk.n)).setCell ⟨W9.heap.size, 1, none⟩ (.slice none 0 0)).setCell ⟨W9.heap.size, 2, none⟩ (.int .i64 xa.n)).setCell ⟨W9.heap.size, 3, none⟩ (.int .u32 (vm : Nat))).setCell ⟨W9.heap.size, 4, none⟩ (.int .i64 xr.n)).setCell ⟨W9.heap.size, 5, none⟩ (.int .i64 xt.n)).setCell ⟨W9.heap.size, 6, none⟩ (.int .u32 (vl : Nat))) (b + 1 + 1) W9.heap.size ((((((q0 && rk) && ra) && rm && sm) && rr) && rt) && rl && sl) ⟨xk.n, [], xa.n, vm, xr.n, xt.n, vl⟩ :=
          ⟨grown_over T15.out (set7_grown _ _ _ _ _ _ _) hz1, (set7_other hne _ _ _ _ _ _ _).trans Q15.out, hz1, stored7 hz _ _ _ _ _ _ _⟩
        have HFIN := Lib.hid hfin
        clear hfin hz
        refine seqI_last rfl ?_
        go_wp2_with fail
        refine NoPanic.normal ?_
        go_wp2_with fail
        go_meet
        exact ⟨_, rfl, HFIN⟩
      · go_wp2_with (go_at_call 70; ((with_reducible refine (number_calls xa.kind xa.n xa.s A2 l2 c2 (b + 1 + 1) _ ra HRA.out _ Q9.out).mono ?_); rintro e W17 ⟨rfl, hG, hBo⟩))
        have T17 := Lib.hid (T9.out.trans hG)
        have Q17 := Lib.hid hBo
        refine ⟨T17.out, ?_⟩
        clear hG hBo
        refine floatI_step rfl rfl ?_ ?_
        · trace "F2"
          go_wp2_with fail
          have T18 := Lib.hid (T17.out.trans (World.grownBy_alloc W17 Z7 _))
          have Q18 := Lib.hid (Q17.out.alloc Z7)
          have ZZ18 : Hid ((W17.alloc Z7).heap[W17.heap.size]? = some Z7 ∧ w1.heap.size ≤ W17.heap.size ∧ W17.heap.size < (W17.alloc Z7).heap.size) := Lib.hid ⟨heap_alloc_new _ _, T17.out.size, by simp⟩
          refine ⟨T18.out, ?_⟩
          refine seqI_step rfl ?_
          go_wp2_with (go_at_call 71; ((with_reducible refine (smallNumber_calls xm.kind xm.n xm.s A3 l3 c3 (b + 1 + 1) (b + 1 + 1 + 1) _ rm sm HRM.out vm HVM.out HSM.out _ Q18.out (HFX.out _ T18.out)).mono ?_); rintro e W19 ⟨rfl, hG, hBo⟩))
          have T19 := Lib.hid (T18.out.trans hG)
          have Q19 := Lib.hid hBo
          have ZZ19 : Hid (W19.heap[W17.heap.size]? = some Z7 ∧ w1.heap.size ≤ W17.heap.size ∧ W17.heap.size < W19.heap.size) := Lib.hid ⟨(hG.block _ ZZ18.out.2.2 (by have := ZZ18.out.2.1; simp only [ne_eq, Option.some.injEq]; omega)).trans ZZ18.out.1, ZZ18.out.2.1, Nat.lt_of_lt_of_le ZZ18.out.2.2 hG.size⟩
          refine ⟨T19.out, ?_⟩
          clear hG hBo
          refine seqI_step rfl ?_
          go_wp2_with (go_at_call 70; ((with_reducible refine (number_calls xr.kind xr.n xr.s A4 l4 c4 (b + 1 + 1) _ rr HRR.out _ Q19.out).mono ?_); rintro e W20 ⟨rfl, hG, hBo⟩))
          have T20 := Lib.hid (T19.out.trans hG)
          have Q20 := Lib.hid hBo
          have ZZ20 : Hid (W20.heap[W17.heap.size]? = some Z7 ∧ w1.heap.size ≤ W17.heap.size ∧ W17.heap.size < W20.heap.size) := Lib.hid ⟨(hG.block _ ZZ19.out.2.2 (by have := ZZ19.out.2.1; simp only [ne_eq, Option.some.injEq]; omega)).trans ZZ19.out.1, ZZ19.out.2.1, Nat.lt_of_lt_of_le ZZ19.out.2.2 hG.size⟩
          refine ⟨T20.out, ?_⟩
          clear hG hBo
          refine seqI_step rfl ?_
          go_wp2_with (go_at_call 70; ((with_reducible refine (number_calls xt.kind xt.n xt.s A5 l5 c5 (b + 1 + 1) _ rt HRT.out _ Q20.out).mono ?_); rintro e W21 ⟨rfl, hG, hBo⟩))
          have T21 := Lib.hid (T20.out.trans hG)
          have Q21 := Lib.hid hBo
          have ZZ21 : Hid (W21.heap[W17.heap.size]? = some Z7 ∧ w1.heap.size ≤ W17.heap.size ∧ W17.heap.size < W21.heap.size) := Lib.hid ⟨(hG.block _ ZZ20.out.2.2 (by have := ZZ20.out.2.1; simp only [ne_eq, Option.some.injEq]; omega)).trans ZZ20.out.1, ZZ20.out.2.1, Nat.lt_of_lt_of_le ZZ20.out.2.2 hG.size⟩
          refine ⟨T21.out, ?_⟩
          clear hG hBo
          refine seqI_step rfl ?_
          go_wp2_with (go_at_call 71; ((with_reducible refine (smallNumber_calls xl.kind xl.n xl.s A6 l6 c6 (b + 1 + 1) (b + 1 + 1 + 1) _ rl sl HRL.out vl HVL.out HSL.out _ Q21.out (HFX.out _ T21.out)).mono ?_); rintro e W22 ⟨rfl, hG, hBo⟩))
          have T22 := Lib.hid (T21.out.trans hG)
          have Q22 := Lib.hid hBo
          have ZZ22 : Hid (W22.heap[W17.heap.size]? = some Z7 ∧ w1.heap.size ≤ W17.heap.size ∧ W17.heap.size < W22.heap.size) := Lib.hid ⟨(hG.block _ ZZ21.out.2.2 (by have := ZZ21.out.2.1; simp only [ne_eq, Option.some.injEq]; omega)).trans ZZ21.out.1, ZZ21.out.2.1, Nat.lt_of_lt_of_le ZZ21.out.2.2 hG.size⟩
          refine ⟨T22.out, ?_⟩
          clear hG hBo
          refine seqI_step rfl ?_
          go_wp2_with fail
          refine ⟨T22.out, ?_⟩
          obtain ⟨hz, hz1, hz2⟩ := ZZ22.out
          obtain ⟨⟨y0, y1, y2, y3, y4, y5, y6⟩, x0, x1, x2, x3, x4, x5, x6⟩ := box7 hz
          have hne : (b + 1 + 1) ≠ W17.heap.size := by omega
          have hfin : OpS w1 (((((((W22.setCell ⟨W17.heap.size, 0, none⟩ (.int .i64 xk.n)).setCell ⟨W17.heap.size, 1, none⟩ (.slice none 0 0)).setCell ⟨W17.heap.size, 2, none⟩ (.int .i64 xa.n)).setCell ⟨W17.heap.size, 3, none⟩ (.int .u32 (vm : Nat))).setCell ⟨W17.heap.size, 4, none⟩ (.int .i64 xr.n)).setCell ⟨W17.heap.size, 5, none⟩ (.int .i64 xt.n)).setCell ⟨W17.heap.size, 6, none⟩ (.int .u32 (vl : Nat))) (b + 1 + 1) W17.heap.size ((((((q0 && rk) && ra) && rm && sm) && rr) && rt) && rl && sl) ⟨xk.n, [], xa.n, vm, xr.n, xt.n, vl⟩ :=
            ⟨grown_over T22.out (set7_grown _ _ _ _ _ _ _) hz1, (set7_other hne _ _ _ _ _ _ _).trans Q22.out, hz1, stored7 hz _ _ _ _ _ _ _⟩
          have HFIN := Lib.hid hfin
          clear hfin hz
          refine seqI_last rfl ?_
          go_wp2_with fail
          refine NoPanic.normal ?_
          go_wp2_with fail
          go_meet
          exact ⟨_, rfl, HFIN⟩
        · go_wp2_with (go_at_call 71; ((with_reducible refine (smallNumber_calls xm.kind xm.n xm.s A3 l3 c3 (b + 1 + 1) (b + 1 + 1 + 1) _ rm sm HRM.out vm HVM.out HSM.out _ Q17.out (HFX.out _ T17.out)).mono ?_); rintro e W24 ⟨rfl, hG, hBo⟩))
          have T24 := Lib.hid (T17.out.trans hG)
          have Q24 := Lib.hid hBo
          refine ⟨T24.out, ?_⟩
          clear hG hBo
          refine floatI_step rfl rfl ?_ ?_
          · trace "F3"
            go_wp2_with fail
            have T25 := Lib.hid (T24.out.trans (World.grownBy_alloc W24 Z7 _))
            have Q25 := Lib.hid (Q24.out.alloc Z7)
            have ZZ25 : Hid ((W24.alloc Z7).heap[W24.heap.size]? = some Z7 ∧ w1.heap.size ≤ W24.heap.size ∧ W24.heap.size < (W24.alloc Z7).heap.size) := Lib.hid ⟨heap_alloc_new _ _, T24.out.size, by simp⟩
            refine ⟨T25.out, ?_⟩
            refine seqI_step rfl ?_
            go_wp2_with (go_at_call 70; ((with_reducible refine (number_calls xr.kind xr.n xr.s A4 l4 c4 (b + 1 + 1) _ rr HRR.out _ Q25.out).mono ?_); rintro e W26 ⟨rfl, hG, hBo⟩))
            have T26 := Lib.hid (T25.out.trans hG)
            have Q26 := Lib.hid hBo
            have ZZ26 : Hid (W26.heap[W24.heap.size]? = some Z7 ∧ w1.heap.size ≤ W24.heap.size ∧ W24.heap.size < W26.heap.size) := Lib.hid ⟨(hG.block _ ZZ25.out.2.2 (by have := ZZ25.out.2.1; simp only [ne_eq, Option.some.injEq]; omega)).trans ZZ25.out.1, ZZ25.out.2.1, Nat.lt_of_lt_of_le ZZ25.out.2.2 hG.size⟩
            refine ⟨T26.out, ?_⟩
            clear hG hBo
            refine seqI_step rfl ?_
            go_wp2_with (go_at_call 70; ((with_reducible refine (number_calls xt.kind xt.n xt.s A5 l5 c5 (b + 1 + 1) _ rt HRT.out _ Q26.out).mono ?_); rintro e W27 ⟨rfl, hG, hBo⟩))
            have T27 := Lib.hid (T26.out.trans hG)
            have Q27 := Lib.hid hBo
            have ZZ27 : Hid (W27.heap[W24.heap.size]? = some Z7 ∧ w1.heap.size ≤ W24.heap.size ∧ W24.heap.size < W27.heap.size) := Lib.hid ⟨(hG.block _ ZZ26.out.2.2 (by have := ZZ26.out.2.1; simp only [ne_eq, Option.some.injEq]; omega)).trans ZZ26.out.1, ZZ26.out.2.1, Nat.lt_of_lt_of_le ZZ26.out.2.2 hG.size⟩
            refine ⟨T27.out, ?_⟩
            clear hG hBo
            refine seqI_step rfl ?_
            go_wp2_with (go_at_call 71; ((with_reducible refine (smallNumber_calls xl.kind xl.n xl.s A6 l6 c6 (b + 1 + 1) (b + 1 + 1 + 1) _ rl sl HRL.out vl HVL.out HSL.out _ Q27.out (HFX.out _ T27.out)).mono ?_); rintro e W28 ⟨rfl, hG, hBo⟩))
            have T28 := Lib.hid (T27.out.trans hG)
            have Q28 := Lib.hid hBo
            have ZZ28 : Hid (W28.heap[W24.heap.size]? = some Z7 ∧ w1.heap.size ≤ W24.heap.size ∧ W24.heap.size < W28.heap.size) := Lib.hid ⟨(hG.block _ ZZ27.out.2.2 (by have := ZZ27.out.2.1; simp only [ne_eq, Option.some.injEq]; omega)).trans ZZ27.out.1, ZZ27.out.2.1, Nat.lt_of_lt_of_le ZZ27.out.2.2 hG.size⟩
            refine ⟨T28.out, ?_⟩
            clear hG hBo
            refine seqI_step rfl ?_
            go_wp2_with fail
            refine ⟨T28.out, ?_⟩
            obtain ⟨hz, hz1, hz2⟩ := ZZ28.out
            obtain ⟨⟨y0, y1, y2, y3, y4, y5, y6⟩, x0, x1, x2, x3, x4, x5, x6⟩ := box7 hz
            have hne : (b + 1 + 1) ≠ W24.heap.size := by omega
            have hfin : OpS w1 (((((((W28.setCell ⟨W24.heap.size, 0, none⟩ (.int .i64 xk.n)).setCell ⟨W24.heap.size, 1, none⟩ (.slice none 0 0)).setCell ⟨W24.heap.size, 2, none⟩ (.int .i64 xa.n)).setCell ⟨W24.heap.size, 3, none⟩ (.int .u32 (vm : Nat))).setCell ⟨W24.heap.size, 4, none⟩ (.int .i64 xr.n)).setCell ⟨W24.heap.size, 5, none⟩ (.int .i64 xt.n)).setCell ⟨W24.heap.size, 6, none⟩ (.int .u32 (vl : Nat))) (b + 1 + 1) W24.heap.size ((((((q0 && rk) && ra) && rm && sm) && rr) && rt) && rl && sl) ⟨xk.n, [], xa.n, vm, xr.n, xt.n, vl⟩ :=
              ⟨grown_over T28.out (set7_grown _ _ _ _ _ _ _) hz1, (set7_other hne _ _ _ _ _ _ _).trans Q28.out, hz1, stored7 hz _ _ _ _ _ _ _⟩
            have HFIN := Lib.hid hfin
            clear hfin hz
            refine seqI_last rfl ?_
            go_wp2_with fail
            refine NoPanic.normal ?_
            go_wp2_with fail
            go_meet
            exact ⟨_, rfl, HFIN⟩
          · go_wp2_with (go_at_call 70; ((with_reducible refine (number_calls xr.kind xr.n xr.s A4 l4 c4 (b + 1 + 1) _ rr HRR.out _ Q24.out).mono ?_); rintro e W30 ⟨rfl, hG, hBo⟩))
            have T30 := Lib.hid (T24.out.trans hG)
            have Q30 := Lib.hid hBo
            refine ⟨T30.out, ?_⟩
            clear hG hBo
            refine floatI_step rfl rfl ?_ ?_
            · trace "F4"
              go_wp2_with fail
              have T31 := Lib.hid (T30.out.trans (World.grownBy_alloc W30 Z7 _))
              have Q31 := Lib.hid (Q30.out.alloc Z7)
              have ZZ31 : Hid ((W30.alloc Z7).heap[W30.heap.size]? = some Z7 ∧ w1.heap.size ≤ W30.heap.size ∧ W30.heap.size < (W30.alloc Z7).heap.size) := Lib.hid ⟨heap_alloc_new _ _, T30.out.size, by simp⟩
              refine ⟨T31.out, ?_⟩
              refine seqI_step rfl ?_
              go_wp2_with (go_at_call 70; ((with_reducible refine (number_calls xt.kind xt.n xt.s A5 l5 c5 (b + 1 + 1) _ rt HRT.out _ Q31.out).mono ?_); rintro e W32 ⟨rfl, hG, hBo⟩))
              have T32 := Lib.hid (T31.out.trans hG)
              have Q32 := Lib.hid hBo
              have ZZ32 : Hid (W32.heap[W30.heap.size]? = some Z7 ∧ w1.heap.size ≤ W30.heap.size ∧ W30.heap.size < W32.heap.size) := Lib.hid ⟨(hG.block _ ZZ31.out.2.2 (by have := ZZ31.out.2.1; simp only [ne_eq, Option.some.injEq]; omega)).trans ZZ31.out.1, ZZ31.out.2.1, Nat.lt_of_lt_of_le ZZ31.out.2.2 hG.size⟩
              refine ⟨T32.out, ?_⟩
              clear hG hBo
              refine seqI_step rfl ?_
              go_wp2_with (go_at_call 71; ((with_reducible refine (smallNumber_calls xl.kind xl.n xl.s A6 l6 c6 (b + 1 + 1) (b + 1 + 1 + 1) _ rl sl HRL.out vl HVL.out HSL.out _ Q32.out (HFX.out _ T32.out)).mono ?_); rintro e W33 ⟨rfl, hG, hBo⟩))
              have T33 := Lib.hid (T32.out.trans hG)
              have Q33 := Lib.hid hBo
              have ZZ33 : Hid (W33.heap[W30.heap.size]? = some Z7 ∧ w1.heap.size ≤ W30.heap.size ∧ W30.heap.size < W33.heap.size) := Lib.hid ⟨(hG.block _ ZZ32.out.2.2 (by have := ZZ32.out.2.1; simp only [ne_eq, Option.some.injEq]; omega)).trans ZZ32.out.1, ZZ32.out.2.1, Nat.lt_of_lt_of_le ZZ32.out.2.2 hG.size⟩
              refine ⟨T33.out, ?_⟩
              clear hG hBo
              refine seqI_step rfl ?_
              go_wp2_with fail
              refine ⟨T33.out, ?_⟩
              obtain ⟨hz, hz1, hz2⟩ := ZZ33.out
              obtain ⟨⟨y0, y1, y2, y3, y4, y5, y6⟩, x0, x1, x2, x3, x4, x5, x6⟩ := box7 hz
              have hne : (b + 1 + 1) ≠ W30.heap.size := by omega
              have hfin : OpS w1 (((((((W33.setCell ⟨W30.heap.size, 0, none⟩ (.int .i64 xk.n)).setCell ⟨W30.heap.size, 1, none⟩ (.slice none 0 0)).setCell ⟨W30.heap.size, 2, none⟩ (.int .i64 xa.n)).setCell ⟨W30.heap.size, 3, none⟩ (.int .u32 (vm : Nat))).setCell ⟨W30.heap.size, 4, none⟩ (.int .i64 xr.n)).setCell ⟨W30.heap.size, 5, none⟩ (.int .i64 xt.n)).setCell ⟨W30.heap.size, 6, none⟩ (.int .u32 (vl : Nat))) (b + 1 + 1) W30.heap.size ((((((q0 && rk) && ra) && rm && sm) && rr) && rt) && rl && sl) ⟨xk.n, [], xa.n, vm, xr.n, xt.n, vl⟩ :=
                ⟨grown_over T33.out (set7_grown _ _ _ _ _ _ _) hz1, (set7_other hne _ _ _ _ _ _ _).trans Q33.out, hz1, stored7 hz _ _ _ _ _ _ _⟩
              have HFIN := Lib.hid hfin
              clear hfin hz
              refine seqI_last rfl ?_
              go_wp2_with fail
              refine NoPanic.normal ?_
              go_wp2_with fail
              go_meet
              exact ⟨_, rfl, HFIN⟩
            · go_wp2_with (go_at_call 70; ((with_reducible refine (number_calls xt.kind xt.n xt.s A5 l5 c5 (b + 1 + 1) _ rt HRT.out _ Q30.out).mono ?_); rintro e W35 ⟨rfl, hG, hBo⟩))
              have T35 := Lib.hid (T30.out.trans hG)
              have Q35 := Lib.hid hBo
              refine ⟨T35.out, ?_⟩
              clear hG hBo
              refine floatI_step rfl rfl ?_ ?_
              · trace "F5"
                go_wp2_with fail
                have T36 := Lib.hid (T35.out.trans (World.grownBy_alloc W35 Z7 _))
                have Q36 := Lib.hid (Q35.out.alloc Z7)
                have ZZ36 : Hid ((W35.alloc Z7).heap[W35.heap.size]? = some Z7 ∧ w1.heap.size ≤ W35.heap.size ∧ W35.heap.size < (W35.alloc Z7).heap.size) := Lib.hid ⟨heap_alloc_new _ _, T35.out.size, by simp⟩
                refine ⟨T36.out, ?_⟩
                refine seqI_step rfl ?_
                go_wp2_with (go_at_call 71; ((with_reducible refine (smallNumber_calls xl.kind xl.n xl.s A6 l6 c6 (b + 1 + 1) (b + 1 + 1 + 1) _ rl sl HRL.out vl HVL.out HSL.out _ Q36.out (HFX.out _ T36.out)).mono ?_); rintro e W37 ⟨rfl, hG, hBo⟩))
                have T37 := Lib.hid (T36.out.trans hG)
                have Q37 := Lib.hid hBo
                have ZZ37 : Hid (W37.heap[W35.heap.size]? = some Z7 ∧ w1.heap.size ≤ W35.heap.size ∧ W35.heap.size < W37.heap.size) := Lib.hid ⟨(hG.block _ ZZ36.out.2.2 (by have := ZZ36.out.2.1; simp only [ne_eq, Option.some.injEq]; omega)).trans ZZ36.out.1, ZZ36.out.2.1, Nat.lt_of_lt_of_le ZZ36.out.2.2 hG.size⟩
                refine ⟨T37.out, ?_⟩
                clear hG hBo
                refine seqI_step rfl ?_
                go_wp2_with fail
                refine ⟨T37.out, ?_⟩
                obtain ⟨hz, hz1, hz2⟩ := ZZ37.out
                obtain ⟨⟨y0, y1, y2, y3, y4, y5, y6⟩, x0, x1, x2, x3, x4, x5, x6⟩ := box7 hz
                have hne : (b + 1 + 1) ≠ W35.heap.size := by omega
                have hfin : OpS w1 (((((((W37.setCell ⟨W35.heap.size, 0, none⟩ (.int .i64 xk.n)).setCell ⟨W35.heap.size, 1, none⟩ (.slice none 0 0)).setCell ⟨W35.heap.size, 2, none⟩ (.int .i64 xa.n)).setCell ⟨W35.heap.size, 3, none⟩ (.int .u32 (vm : Nat))).setCell ⟨W35.heap.size, 4, none⟩ (.int .i64 xr.n)).setCell ⟨W35.heap.size, 5, none⟩ (.int .i64 xt.n)).setCell ⟨W35.heap.size, 6, none⟩ (.int .u32 (vl : Nat))) (b + 1 + 1) W35.heap.size ((((((q0 && rk) && ra) && rm && sm) && rr) && rt) && rl && sl) ⟨xk.n, [], xa.n, vm, xr.n, xt.n, vl⟩ :=
                  ⟨grown_over T37.out (set7_grown _ _ _ _ _ _ _) hz1, (set7_other hne _ _ _ _ _ _ _).trans Q37.out, hz1, stored7 hz _ _ _ _ _ _ _⟩
                have HFIN := Lib.hid hfin
                clear hfin hz
                refine seqI_last rfl ?_
                go_wp2_with fail
                refine NoPanic.normal ?_
                go_wp2_with fail
                go_meet
                exact ⟨_, rfl, HFIN⟩
              · go_wp2_with (go_at_call 71; ((with_reducible refine (smallNumber_calls xl.kind xl.n xl.s A6 l6 c6 (b + 1 + 1) (b + 1 + 1 + 1) _ rl sl HRL.out vl HVL.out HSL.out _ Q35.out (HFX.out _ T35.out)).mono ?_); rintro e W39 ⟨rfl, hG, hBo⟩))
                have T39 := Lib.hid (T35.out.trans hG)
                have Q39 := Lib.hid hBo
                refine ⟨T39.out, ?_⟩
                clear hG hBo
                refine floatI_step rfl rfl ?_ ?_
                · trace "F6"
                  go_wp2_with fail
                  have T40 := Lib.hid (T39.out.trans (World.grownBy_alloc W39 Z7 _))
                  have Q40 := Lib.hid (Q39.out.alloc Z7)
                  have ZZ40 : Hid ((W39.alloc Z7).heap[W39.heap.size]? = some Z7 ∧ w1.heap.size ≤ W39.heap.size ∧ W39.heap.size < (W39.alloc Z7).heap.size) := Lib.hid ⟨heap_alloc_new _ _, T39.out.size, by simp⟩
                  refine ⟨T40.out, ?_⟩
                  refine seqI_step rfl ?_
                  go_wp2_with fail
                  refine ⟨T40.out, ?_⟩
                  have hfin : OpS w1 (W39.alloc (.cells #[.int .i64 xk.n, .slice none 0 0, .int .i64 xa.n, .int .u32 (vm : Nat), .int .i64 xr.n, .int .i64 xt.n, .int .u32 (vl : Nat)] 47)) (b + 1 + 1) W39.heap.size ((((((q0 && rk) && ra) && rm && sm) && rr) && rt) && rl && sl) ⟨xk.n, [], xa.n, vm, xr.n, xt.n, vl⟩ :=
                    ⟨T39.out.trans (World.grownBy_alloc W39 _ _), Q39.out.alloc _, T39.out.size, heap_alloc_new W39 _⟩
                  have HFIN := Lib.hid hfin
                  clear hfin
                  refine seqI_last rfl ?_
                  go_wp2_with fail
                  refine NoPanic.normal ?_
                  go_wp2_with fail
                  go_meet
                  exact ⟨_, rfl, HFIN⟩
                · go_wp2_with fail
                  refine ⟨T39.out, ?_⟩
                  refine floatI_last rfl ?_
                  go_wp2_with fail
                  have T43 := Lib.hid (T39.out.trans (World.grownBy_alloc W39 Z7 _))
                  have Q43 := Lib.hid (Q39.out.alloc Z7)
                  have ZZ43 : Hid ((W39.alloc Z7).heap[W39.heap.size]? = some Z7 ∧ w1.heap.size ≤ W39.heap.size ∧ W39.heap.size < (W39.alloc Z7).heap.size) := Lib.hid ⟨heap_alloc_new _ _, T39.out.size, by simp⟩
                  refine ⟨T43.out, ?_⟩
                  have hfin : OpS w1 (W39.alloc (.cells #[.int .i64 xk.n, .slice none 0 0, .int .i64 xa.n, .int .u32 (vm : Nat), .int .i64 xr.n, .int .i64 xt.n, .int .u32 (vl : Nat)] 47)) (b + 1 + 1) W39.heap.size ((((((q0 && rk) && ra) && rm && sm) && rr) && rt) && rl && sl) ⟨xk.n, [], xa.n, vm, xr.n, xt.n, vl⟩ :=
                    ⟨T39.out.trans (World.grownBy_alloc W39 _ _), Q39.out.alloc _, T39.out.size, heap_alloc_new W39 _⟩
                  have HFIN := Lib.hid hfin
                  clear hfin
                  refine seqI_last rfl ?_
                  go_wp2_with fail
                  refine NoPanic.normal ?_
                  go_wp2_with fail
                  go_meet
                  exact ⟨_, rfl, HFIN⟩
  case rest =>
    obtain ⟨ob, rfl, hcut⟩ := hcut
    obtain ⟨hG, hQ, hob, hO⟩ := hcut.out
    clear hcut
    obtain ⟨q6, hq6⟩ : ∃ q, ((((((q0 && rk) && ra) && rm && sm) && rr) && rt) && rl && sl) = q := ⟨_, rfl⟩
    rw [hq6] at hQ
    obtain ⟨o, ho⟩ : ∃ o, (⟨xk.n, [], xa.n, vm, xr.n, xt.n, vl⟩ : Opr) = o := ⟨_, rfl⟩
    rw [ho] at hO
    have hlow : Below b w wc := HBW.out.grown hG (by have := HSW.out; omega) (fun k hk => by simp only [Option.some.injEq] at hk; omega)
    have hRS : RdS w wc b ob q6 (withIns o []) none 0 0 := by
      have hs := HSW.out
      refine ⟨hlow, hQ, HFX.out wc hG, (hG.block _ (by omega) (by simp only [ne_eq, Option.some.injEq]; omega)).trans HZW.out, ?_, OwnI.nil _ _, by omega⟩
      rw [← ho] at hO ⊢
      exact hO
    obtain ⟨m0, m1, m2, m3⟩ := H1.out wc hlow
    have HRS := Lib.hid hRS
    have HQ6 := Lib.hid hq6
    have HOO := Lib.hid ho
    have hlb : l1 ≤ 1048576 := by rw [← hl1]; exact hxi
    have HXI := Lib.hid hxi
    have HX2 := Lib.hid hx
    have HL1 := Lib.hid hl1
    clear hG hQ hob hO hq6 ho hlow hRS HBW HZW HQW HFW HSW HFX HXX hx hxi H1 hb hl1 hl0 hl2 hl3 hl4 hl5 hl6
    go_wp2_with fail
    go_loopw [60] (fun i wr => ∃ k : Nat, i = .int .i64 k ∧ k ≤ l1 ∧ Hid (∃ A n c, RdS w wr b ob (q6 && allK (xi.kids.take k)) (withIns o ((xi.kids.take k).map Item.n)) A n c)) (fun i _ => l1 - (intOf i).toNat)
    case atStart => exact ⟨0, rfl, Nat.zero_le _, Lib.hid ⟨none, 0, 0, by have := HRS.out; simpa [allK] using this⟩⟩
    case round =>
      obtain ⟨k, rfl, hk, hR⟩ := hrel
      obtain ⟨A, n, c', hR⟩ := hR.out
      obtain ⟨q, hq⟩ : ∃ q, (q6 && allK (xi.kids.take k)) = q := ⟨_, rfl⟩
      rw [hq] at hR
      have hob := lt_of_some hR.box
      have hfar := hR.far
      have HR := Lib.hid hR
      have HQK := Lib.hid hq
      clear hR hq
      by_cases hlt : k < l1
      · obtain ⟨y, hy⟩ : ∃ y, xi.kids[k]? = some y := ⟨_, List.getElem?_eq_getElem (by rw [HL1.out]; exact hlt)⟩
        have hBw : Below w.heap.size w wr := by rw [HBB.out]; exact HR.out.low
        obtain ⟨jb, jo, rfl, hjb, hcells⟩ := (Items.low hBw HI1.out).at (by omega)
        obtain ⟨uy, ⟨y0, y1, y2, y3⟩, hiy⟩ := hcells k y hy
        obtain ⟨Ay, cy, rfl, _⟩ := hiy.form
        obtain ⟨ly, hly⟩ : ∃ ly, y.kids.length = ly := ⟨_, rfl⟩
        rw [hly] at y3
        obtain ⟨ry, hry⟩ : ∃ q : Bool, ((y.kind : Int) == 0) = q := ⟨_, rfl⟩
        have HRY := Lib.hid hry
        have HLT := Lib.hid hlt
        have HY := Lib.hid hy
        have hjw : jb < wr.heap.size := by have := hBw.size; omega
        obtain ⟨⟨z0, z1, z2, z3, z4, z5, z6⟩, f0, f1, f2, f3, f4, f5, f6⟩ := box7 HR.out.box
        have hfc := HR.out.fn.cell
        have hn0 : ob ≠ wr.heap.size := by omega
        have hn1 : b + 1 + 1 + 1 ≠ wr.heap.size := by omega
        have hox : BoolAt (wr.alloc (.cells #[.int .i64 y.kind, .int .i64 y.n, .string y.s, .slice Ay ly cy] 71)).drew (b + 1 + 1) q := HR.out.note.alloc _
        have hbx := heap_alloc_new wr (.cells #[.int .i64 y.kind, .int .i64 y.n, .string y.s, .slice Ay ly cy] 71)
        obtain ⟨⟨d0, d1, d2, d3⟩, _⟩ := box4_cells hbx
        have HBXA := Lib.hid hbx
        have HOX := Lib.hid hox
        have HCC : Hid (∀ W, (wr.alloc (.cells #[.int .i64 y.kind, .int .i64 y.n, .string y.s, .slice Ay ly cy] 71)).grownBy W (some (b + 1 + 1)) → W.cell? ⟨ob, 1, none⟩ = some (.slice A n c') ∧ W.cell? ⟨b + 1 + 1 + 1, 0, none⟩ = some (.func (.func 70) #[] #[.pointer (some ⟨b + 1 + 1, 0, none⟩)]) ∧ W.cell? ⟨wr.heap.size, 0, none⟩ = some (.int .i64 y.kind) ∧ W.cell? ⟨wr.heap.size, 1, none⟩ = some (.int .i64 y.n) ∧ W.cell? ⟨wr.heap.size, 2, none⟩ = some (.string y.s) ∧ W.cell? ⟨wr.heap.size, 3, none⟩ = some (.slice Ay ly cy) ∧ W.frozen? ⟨ob, 1, none⟩ = false) := Lib.hid fun W hW => by
          have e1 : W.heap[ob]? = wr.heap[ob]? := (hW.block ob (by simp; omega) (by simp only [ne_eq, Option.some.injEq]; omega)).trans (Below.heap_alloc wr _ ob hob)
          have e2 : W.heap[b + 1 + 1 + 1]? = wr.heap[b + 1 + 1 + 1]? := (hW.block (b + 1 + 1 + 1) (by simp; omega) (by simp only [ne_eq, Option.some.injEq]; omega)).trans (Below.heap_alloc wr _ (b + 1 + 1 + 1) (by omega))
          have e3 : W.heap[wr.heap.size]? = _ := (hW.block wr.heap.size (by simp) (by simp only [ne_eq, Option.some.injEq]; omega)).trans HBXA.out
          obtain ⟨⟨g0, g1, g2, g3⟩, _⟩ := box4_cells e3
          refine ⟨?_, ?_, g0, g1, g2, g3, ?_⟩
          · simp only [World.cell?, e1] at z1 ⊢; exact z1
          · simp only [World.cell?, e2] at hfc ⊢; exact hfc
          · simp only [World.frozen?, e1] at f1 ⊢; exact f1
        clear hcells hiy hy hry hBw hly hox hbx
        go_wp2_with fail
        refine wp_region_noPanic ?_
        refine wp_region_held_tail (C := fun W => W.cell? ⟨ob, 1, none⟩ = some (.slice A n c') ∧ W.cell? ⟨b + 1 + 1 + 1, 0, none⟩ = some (.func (.func 70) #[] #[.pointer (some ⟨b + 1 + 1, 0, none⟩)]) ∧ W.cell? ⟨wr.heap.size, 0, none⟩ = some (.int .i64 y.kind) ∧ W.cell? ⟨wr.heap.size, 1, none⟩ = some (.int .i64 y.n) ∧ W.cell? ⟨wr.heap.size, 2, none⟩ = some (.string y.s) ∧ W.cell? ⟨wr.heap.size, 3, none⟩ = some (.slice Ay ly cy)) [0, 1, 2, 3] [4, 5, 6, 7, 8] 8 (by kernel_rfl) (by kernel_rfl) (fun _ _ _ _ _ h => h) ?_ ?_
        · obtain ⟨g0, g1, g2, g3, g4, g5, _⟩ := HCC.out _ (World.grownBy.refl _ _)
          exact ⟨g0, g1, g2, g3, g4, g5⟩
        clear y0 y1 y2 y3 z0 z1 z2 z3 z4 z5 z6 f0 f1 f2 f3 f4 f5 f6 d0 d1 d2 d3 hfc
        iterate 4
          refine heldI_step (v := ?_) rfl (by rfl) (fun w' hw' => ?_) ?_
          rotate_left
          · obtain ⟨k0, k1, k2, k3, k4, k5⟩ := hw'
            go_simp
            all_goals with_reducible rfl
          simp only [Act.put, List.getElem_toArray, List.getElem_cons_succ, List.getElem_cons_zero, List.setIfInBounds_toArray, List.set_cons_succ, List.set_cons_zero]
        refine heldI_nil ?_
        refine seqI_step rfl ?_
        go_wp2_with (go_at_call 70; ((with_reducible refine (number_calls y.kind y.n y.s Ay ly cy (b + 1 + 1) q ry HRY.out _ HOX.out).mono ?_); rintro e W1 ⟨rfl, hG1, hB1⟩))
        obtain ⟨g0, g1, g2, g3, g4, g5, gf⟩ := HCC.out W1 ((show (wr.alloc (.cells #[.int .i64 y.kind, .int .i64 y.n, .string y.s, .slice Ay ly cy] 71)).grownBy (wr.alloc (.cells #[.int .i64 y.kind, .int .i64 y.n, .string y.s, .slice Ay ly cy] 71)).drew (some (b + 1 + 1)) from ⟨rfl, rfl, rfl, Nat.le_refl _, fun _ _ _ => rfl⟩).trans hG1)
        refine ⟨⟨g0, g1, g2, g3, g4, g5⟩, ?_⟩
        have hs1 : wr.heap.size + 1 ≤ W1.heap.size := by have := hG1.size; simpa using this
        have hO1 : OwnI W1 (ob + 1) (.slice A n c') ((xi.kids.take k).map Item.n) := by
          refine OwnI.keep (W := wr) HR.out.own fun g hg => ?_
          have h1 := HR.out.own.own hg
          exact (hG1.block g (by simp; omega) (by simp only [ne_eq, Option.some.injEq]; omega)).trans (Below.heap_alloc wr _ g h1.2)
        have hlen : ((xi.kids.take k).map Item.n).length ≤ 1048576 := by rw [List.length_map, List.length_take]; have := HXI.out; omega
        obtain ⟨v', W3, hrun, hO3, hG3, _⟩ := hO1.append (by omega) y.n 45 (by omega)
        have hins : (xi.kids.take k).map Item.n ++ [y.n] = (xi.kids.take (k + 1)).map Item.n := by rw [take_snoc HY.out, List.map_append]; rfl
        rw [hins] at hO3
        obtain ⟨A', c2, hv', _⟩ := hO3.form
        obtain ⟨n', hn'⟩ : ∃ n', ((xi.kids.take (k + 1)).map Item.n).length = n' := ⟨_, rfl⟩
        rw [hn'] at hv'
        subst hv'
        have hnx := HR.out.next (.cells #[.int .i64 y.kind, .int .i64 y.n, .string y.s, .slice Ay ly cy] 71) hG1 hB1 hG3 hO3
        have hqn : (q && ry) = (q6 && allK (xi.kids.take (k + 1))) := by rw [take_snoc HY.out, allK_snoc, HRY.out, ← Bool.and_assoc, HQK.out]
        rw [hqn] at hnx
        have hown : ∀ g, (Value.slice A n c').ownBlock = some g → ob + 1 ≤ g ∧ g < wr.heap.size := fun g hg => HR.out.own.own hg
        have hk3 : ∀ j, j < W1.heap.size → (j ≤ ob ∨ j = wr.heap.size) → W3.heap[j]? = W1.heap[j]? := fun j hj hor => hG3.block j hj (fun e => by have := hown j e.symm; omega)
        have g0' : W3.cell? ⟨ob, 1, none⟩ = some (.slice A n c') := by simp only [World.cell?, hk3 ob (by omega) (.inl (Nat.le_refl _))] at g0 ⊢; exact g0
        have gf' : W3.frozen? ⟨ob, 1, none⟩ = false := by simp only [World.frozen?, hk3 ob (by omega) (.inl (Nat.le_refl _))] at gf ⊢; exact gf
        have g1' : W3.cell? ⟨b + 1 + 1 + 1, 0, none⟩ = some (.func (.func 70) #[] #[.pointer (some ⟨b + 1 + 1, 0, none⟩)]) := by simp only [World.cell?, hk3 (b + 1 + 1 + 1) (by omega) (.inl (by omega))] at g1 ⊢; exact g1
        have g2' : W3.cell? ⟨wr.heap.size, 0, none⟩ = some (.int .i64 y.kind) := by simp only [World.cell?, hk3 wr.heap.size (by omega) (.inr rfl)] at g2 ⊢; exact g2
        have g3' : W3.cell? ⟨wr.heap.size, 1, none⟩ = some (.int .i64 y.n) := by simp only [World.cell?, hk3 wr.heap.size (by omega) (.inr rfl)] at g3 ⊢; exact g3
        have g4' : W3.cell? ⟨wr.heap.size, 2, none⟩ = some (.string y.s) := by simp only [World.cell?, hk3 wr.heap.size (by omega) (.inr rfl)] at g4 ⊢; exact g4
        have g5' : W3.cell? ⟨wr.heap.size, 3, none⟩ = some (.slice Ay ly cy) := by simp only [World.cell?, hk3 wr.heap.size (by omega) (.inr rfl)] at g5 ⊢; exact g5
        have hnext : RdS w (W3.setCell ⟨ob, 1, none⟩ (.slice A' n' c2)) b ob (q6 && allK (xi.kids.take (k + 1))) (withIns o ((xi.kids.take (k + 1)).map Item.n)) A' n' c2 := hnx
        have HNX := Lib.hid hnext
        have HRUN := Lib.hid hrun
        have hn2 : ob ≠ W1.heap.size := by omega
        have hn3 : b + 1 + 1 + 1 ≠ W1.heap.size := by omega
        have hn4 : wr.heap.size < W1.heap.size := by omega
        clear hnx hqn hG1 hB1 hO1 hO3 hG3 hrun hins hown hk3 hnext hn' hlen
        refine seqI_step rfl ?_
        go_wp2_with fail
        refine ⟨⟨cellA g0 _, cellA g1 _, cellA g2 _, cellA g3 _, cellA g4 _, cellA g5 _⟩, ?_⟩
        refine seqI_step rfl ?_
        simp only [List.getElem_toArray, List.getElem_cons_succ, List.getElem_cons_zero]
        go_wp2_with (at_builtin; refine wpList_append_ran rfl _ _ _ rfl rfl rfl HRUN.out ?_)
        refine ⟨⟨g0', g1', g2', g3', g4', g5'⟩, ?_⟩
        refine seqI_step rfl ?_
        go_wp2_with fail
        refine ⟨⟨g0', g1', g2', g3', g4', g5'⟩, ?_⟩
        refine seqI_last rfl ?_
        go_wp2_with fail
        refine NoPanic.normal ?_
        go_wp2_with fail
        go_roundw
        case rel => exact ⟨k + 1, by go_num, by have := HLT.out; omega, Lib.hid ⟨_, _, _, HNX.out⟩⟩
        case measure => have := HLT.out; simp [intOf]; omega
      · obtain rfl : k = l1 := by omega
        have hTk : xi.kids.take k = xi.kids := List.take_of_length_le (by rw [HL1.out]; exact Nat.le_refl _)
        have hR := HR.out
        rw [hTk] at hR HQK
        clear HR
        obtain ⟨⟨z0, z1, z2, z3, z4, z5, z6⟩, f0, f1, f2, f3, f4, f5, f6⟩ := box7 hR.box
        obtain ⟨t0, _⟩ := hR.note.cell
        obtain ⟨⟨r0, r1, r2, r3, r4, r5, r6⟩, s0, s1, s2, s3, s4, s5, s6⟩ := box7 hR.res
        have hfin := stored7 hR.res (.int .i64 o.kind) (.slice A n c') (.int .i64 o.arg) (.int .u32 (o.num : Nat)) (.int .i64 o.rounds) (.int .i64 o.test) (.int .u32 (o.lim : Nat))
        have hgr : wr.grownBy _ (some (b + 1)) := set7_grown (W := wr) (b := b + 1) (.int .i64 o.kind) (.slice A n c') (.int .i64 o.arg) (.int .u32 (o.num : Nat)) (.int .i64 o.rounds) (.int .i64 o.test) (.int .u32 (o.lim : Nat))
        have HFIN := Lib.hid hfin
        have HGR := Lib.hid hgr
        have HGD : Hid (wr.grownBy (((((((wr.setCell ⟨b + 1, 0, none⟩ (.int .i64 o.kind)).setCell ⟨b + 1, 1, none⟩ (.slice A n c')).setCell ⟨b + 1, 2, none⟩ (.int .i64 o.arg)).setCell ⟨b + 1, 3, none⟩ (.int .u32 (o.num : Nat))).setCell ⟨b + 1, 4, none⟩ (.int .i64 o.rounds)).setCell ⟨b + 1, 5, none⟩ (.int .i64 o.test)).setCell ⟨b + 1, 6, none⟩ (.int .u32 (o.lim : Nat))).drew (some (b + 1))) := Lib.hid (grown_drew hgr)
        have HR := Lib.hid hR
        have hob1 : ob ≠ b + 1 := by omega
        simp only [withIns] at z0 z1 z2 z3 z4 z5 z6
        clear hfin hgr hR f0 f1 f2 f3 f4 f5 f6 hTk
        go_wp2_with fail
        refine wp_region_noPanic ?_
        refine wp_region_held_tail (C := fun W => W.cell? ⟨ob, 0, none⟩ = some (.int .i64 o.kind) ∧ W.cell? ⟨ob, 1, none⟩ = some (.slice A n c') ∧ W.cell? ⟨ob, 2, none⟩ = some (.int .i64 o.arg) ∧ W.cell? ⟨ob, 3, none⟩ = some (.int .u32 (o.num : Nat)) ∧ W.cell? ⟨ob, 4, none⟩ = some (.int .i64 o.rounds) ∧ W.cell? ⟨ob, 5, none⟩ = some (.int .i64 o.test) ∧ W.cell? ⟨ob, 6, none⟩ = some (.int .u32 (o.lim : Nat)) ∧ W.cell? ⟨b + 1 + 1, 0, none⟩ = some (.bool q)) [0, 1] [2, 3] 3 (by kernel_rfl) (by kernel_rfl) (fun _ _ _ _ _ h => h) ?_ ?_
        · exact ⟨z0, z1, z2, z3, z4, z5, z6, t0⟩
        iterate 2
          refine heldI_step (v := ?_) rfl (by rfl) (fun w' hw' => ?_) ?_
          rotate_left
          · obtain ⟨k0, k1, k2, k3, k4, k5, k6, k7⟩ := hw'
            go_simp
            all_goals with_reducible rfl
          simp only [Act.put, List.getElem_toArray, List.getElem_cons_succ, List.getElem_cons_zero, List.setIfInBounds_toArray, List.set_cons_succ, List.set_cons_zero]
        refine heldI_nil ?_
        refine seqI_step rfl ?_
        go_wp2_with fail
        have hCC := HGD.out.cell z0 (by simp only [ne_eq, Option.some.injEq]; omega)
        refine ⟨⟨HGD.out.cell z0 (by simp only [ne_eq, Option.some.injEq]; omega), HGD.out.cell z1 (by simp only [ne_eq, Option.some.injEq]; omega), HGD.out.cell z2 (by simp only [ne_eq, Option.some.injEq]; omega), HGD.out.cell z3 (by simp only [ne_eq, Option.some.injEq]; omega), HGD.out.cell z4 (by simp only [ne_eq, Option.some.injEq]; omega), HGD.out.cell z5 (by simp only [ne_eq, Option.some.injEq]; omega), HGD.out.cell z6 (by simp only [ne_eq, Option.some.injEq]; omega), HGD.out.cell t0 (by simp only [ne_eq, Option.some.injEq]; omega)⟩, ?_⟩
        clear hCC
        refine seqI_last rfl ?_
        go_wp2_with fail
        refine NoPanic.normal ?_
        go_wp2_with fail
        have hfin := HFIN.out
        have hgr := HGR.out
        clear HFIN HGR HGD z0 z1 z2 z3 z4 z5 z6 r0 r1 r2 r3 r4 r5 r6 s0 s1 s2 s3 s4 s5 s6 t0
        generalize (((((((wr.setCell ⟨b + 1, 0, none⟩ (.int .i64 o.kind)).setCell ⟨b + 1, 1, none⟩ (.slice A n c')).setCell ⟨b + 1, 2, none⟩ (.int .i64 o.arg)).setCell ⟨b + 1, 3, none⟩ (.int .u32 (o.num : Nat))).setCell ⟨b + 1, 4, none⟩ (.int .i64 o.rounds)).setCell ⟨b + 1, 5, none⟩ (.int .i64 o.test)).setCell ⟨b + 1, 6, none⟩ (.int .u32 (o.lim : Nat))) = W at hfin hgr ⊢
        obtain ⟨⟨p0, p1, p2, p3, p4, p5, p6⟩, _⟩ := box7 hfin
        have hans := rdOp_seven HX2.out
        have hsome : (rdOp x).isSome = q := by
          rw [hans.1, ← HQK.out, ← HQ6.out, ← HQ0.out, ← HRK.out, ← HRA.out, ← HRM.out, ← HSM.out, ← HRR.out, ← HRT.out, ← HRL.out, ← HSL.out]
        have hW : Below b w W := HR.out.low.trans ⟨hgr.os, hgr.tape, hgr.output, hgr.size, fun j hj => hgr.block j (by have := HR.out.low.size; have := HBB.out; omega) (by simp only [ne_eq, Option.some.injEq]; omega)⟩
        refine bodyPost_ret (v := .tuple #[.agg #[.int .i64 o.kind, .slice A n c', .int .i64 o.arg, .int .u32 (o.num : Nat), .int .i64 o.rounds, .int .i64 o.test, .int .u32 (o.lim : Nat)], .bool q]) (by simp [results, Try.results62, go_sem, p0, p1, p2, p3, p4, p5, p6]) rfl ⟨withIns o (xi.kids.map Item.n), A, n, c', by rw [hsome]; rfl, fun o' h' => ?_, ?_⟩
        · refine ⟨?_, ?_⟩
          · rw [hans.2 o' h', ← HOO.out, HVM.out, HVL.out]
            rfl
          · have hI := HR.out.own.ints
            refine hI.keep (fun j hj => hgr.block j hj.2 (by simp only [ne_eq, Option.some.injEq]; have := hj.1; omega)) (fun j hj => ⟨by have := hj.1; have := HBB.out; omega, Nat.lt_of_lt_of_le hj.2 hgr.size⟩)
        · rw [HBB.out]
          exact hW.drew

end Go.Proofs.Ytffehnojcajhiaa.Wire.Entry

namespace Go.Proofs.Ytffehnojcajhiaa.Wire.Entry
open Go Go.RowKit Go.Proofs.Ytffehnojcajhiaa.Law

theorem rdOp_short {x : Item} (h : x.kids.length ≠ 7) : rdOp x = none := by
  unfold rdOp
  split
  · rename_i hk
    rw [hk] at h
    exact absurd rfl h
  · rfl

theorem readOp_calls (x : Item) (A : Option Addr) (c : Nat) (w : World) (h : Old w.heap.size w (.slice A x.kids.length c) x.kids) (hk : ∀ y ∈ x.kids, y.kids.length ≤ 1048576) : Calls Try.prog 62 #[itemV x A c] w (RetOpr w (rdOp x)) := by
  by_cases h7 : x.kids.length = 7
  · unfold itemV
    rw [h7] at h ⊢
    match hx : x.kids, h7 with
    | [a, b, c', d, e, f, g], _ =>
      rw [hx] at hk
      exact readOp_long x a b c' d e f g hx (hk b (by simp)) A c w h
  · rw [rdOp_short h7]
    exact readOp_short x h7 A c w

end Go.Proofs.Ytffehnojcajhiaa.Wire.Entry
