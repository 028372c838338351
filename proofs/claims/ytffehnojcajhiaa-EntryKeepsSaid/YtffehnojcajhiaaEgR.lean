/-
  Contract of readOp: its numbers taken one by one. Contract of readOp: its seven fields. Contract of readOp, whatever the item. Contract of readGraph. Contract of read. Contract of read for items that there are. Contract of Decode: the entry of a text, or the error.
-/
import Derived.Test.YtffehnojcajhiaaEgN
import Derived.Test.YtffehnojcajhiaaEgF
import Derived.Deep.DeepCutAuto
import Derived.Laws.EntriesVeiled
import Derived.Test.YtffehnojcajhiaaEgH
import Derived.Test.YtffehnojcajhiaaEgA
import Derived.Test.YtffehnojcajhiaaEgE
import Derived.Test.YtffehnojcajhiaaWireDecode
import Derived.Lib.ConvBytes
namespace Go.Proofs.Ytffehnojcajhiaa.Wire.Entry.U
open Go Go.RowKit Go.Proofs.Ytffehnojcajhiaa.Law

abbrev itemV (x : Item) (A : Option Addr) (c : Nat) : Value := .agg #[.int .i64 x.kind, .int .i64 x.n, .string x.s, .slice A x.kids.length c]
abbrev Z7 : Obj := .cells #[.int .i64 0, .slice none 0 0, .int .i64 0, .int .u32 0, .int .i64 0, .int .i64 0, .int .u32 0] 47

/-- An operator that was read, and whether it was one. -/
def RetOpr (w : World) (r : Option Opr) (e : Ending) (W : World) : Prop :=
  ∃ (o : Opr) (A : Option Addr) (n c : Nat), e = .returned (.tuple #[opV o (.slice A n c), .bool r.isSome]) ∧ (∀ o', r = some o' → o = o' ∧ IntsW (fun k => w.heap.size ≤ k ∧ k < W.heap.size) W (.slice A n c) o.ins) ∧ Below w.heap.size w W

/-- What the world is behind the numbers: the note, the operator's block. -/
def OpS (w1 W : World) (nb ob : Nat) (q : Bool) (o : Opr) : Prop :=
  w1.grownBy W (some nb) ∧ BoolAt W nb q ∧ w1.heap.size ≤ ob ∧ OBox W ob o (.slice none 0 0)

set_option maxRecDepth 100000 in
set_option maxHeartbeats 1000000 in
theorem readOp_short (x : Item) (hx : x.kids.length ≠ 7) (A : Option Addr) (c : Nat) (w : World) : Calls Try.prog 62 #[itemV x A c] w (RetOpr w none) := by
  obtain ⟨n, hn⟩ : ∃ n, x.kids.length = n := ⟨_, rfl⟩
  unfold itemV
  rw [hn] at hx ⊢
  have hneb : ((n : Int) != 7) = true := by rw [bne_iff_ne]; omega
  obtain ⟨b, hb⟩ : ∃ b, w.heap.size = b := ⟨_, rfl⟩
  have hbox : ((w.alloc (.cells #[.int .i64 x.kind, .int .i64 x.n, .string x.s, .slice A n c] 71)).alloc Z7).heap[b + 1]? = some Z7 := by
    have := heap_alloc_new (w.alloc (.cells #[.int .i64 x.kind, .int .i64 x.n, .string x.s, .slice A n c] 71)) Z7
    rwa [World.size_alloc, hb] at this
  have hB : Below w.heap.size w ((w.alloc (.cells #[.int .i64 x.kind, .int .i64 x.n, .string x.s, .slice A n c] 71)).alloc Z7) := ((Below.refl _ _).alloc (Nat.le_refl _) _).alloc (by simp) _
  have HBX := Lib.hid hbox
  have HB := Lib.hid hB
  clear hbox hB hn hx
  go_enter Try.func62, Try.ntmps62
  go_wp2_with fail
  have hbox := HBX.out
  have hB := HB.out
  clear HBX HB
  generalize ((w.alloc (.cells #[.int .i64 x.kind, .int .i64 x.n, .string x.s, .slice A n c] 71)).alloc Z7) = W at hbox hB ⊢
  obtain ⟨⟨p0, p1, p2, p3, p4, p5, p6⟩, _⟩ := box7 hbox
  exact bodyPost_ret (v := .tuple #[.agg #[.int .i64 0, .slice none 0 0, .int .i64 0, .int .u32 0, .int .i64 0, .int .i64 0, .int .u32 0], .bool false]) (by simp [results, Try.results62, go_sem, p0, p1, p2, p3, p4, p5, p6]) rfl ⟨⟨0, [], 0, 0, 0, 0, 0⟩, none, 0, 0, rfl, (fun o' h => by cases h), hB⟩

end Go.Proofs.Ytffehnojcajhiaa.Wire.Entry.U

namespace Go.Proofs.Ytffehnojcajhiaa.Wire.Entry.U
open Go Go.RowKit Go.Proofs.Ytffehnojcajhiaa.Law

set_option maxRecDepth 100000 in
set_option maxHeartbeats 20000000 in
theorem readOp_long (x xk xi xa xm xr xt xl : Item) (hx : x.kids = [xk, xi, xa, xm, xr, xt, xl]) (hxi : xi.kids.length ≤ 1048576) (A : Option Addr) (c : Nat) (w : World) (h : Old w.heap.size w (.slice A 7 c) x.kids) :
    Calls Try.prog 62 #[.agg #[.int .i64 x.kind, .int .i64 x.n, .string x.s, .slice A 7 c]] w (RetOpr w (rdOp x)) := by
  obtain ⟨b, hb⟩ : ∃ b, w.heap.size = b := ⟨_, rfl⟩
  rw [hx] at h
  obtain ⟨ib, io, rfl, hib, hcells⟩ := h.at (by omega)
  have hib2 : ib < b := by omega
  obtain ⟨q0, hq0⟩ : ∃ q : Bool, ((xi.kind : Int) == 2) = q := ⟨_, rfl⟩
  obtain ⟨v0, h0, i0⟩ := hcells 0 xk rfl
  obtain ⟨A0, c0, rfl, _⟩ := i0.form
  obtain ⟨v1, h1, i1⟩ := hcells 1 xi rfl
  obtain ⟨A1, c1, rfl, _⟩ := i1.form
  obtain ⟨v2, h2, i2⟩ := hcells 2 xa rfl
  obtain ⟨A2, c2, rfl, _⟩ := i2.form
  obtain ⟨v3, h3, i3⟩ := hcells 3 xm rfl
  obtain ⟨A3, c3, rfl, _⟩ := i3.form
  obtain ⟨v4, h4, i4⟩ := hcells 4 xr rfl
  obtain ⟨A4, c4, rfl, _⟩ := i4.form
  obtain ⟨v5, h5, i5⟩ := hcells 5 xt rfl
  obtain ⟨A5, c5, rfl, _⟩ := i5.form
  obtain ⟨v6, h6, i6⟩ := hcells 6 xl rfl
  obtain ⟨A6, c6, rfl, _⟩ := i6.form
  have HI1 := Lib.hid i1
  obtain ⟨l0, hl0⟩ : ∃ l, xk.kids.length = l := ⟨_, rfl⟩
  rw [hl0] at h0
  obtain ⟨l1, hl1⟩ : ∃ l, xi.kids.length = l := ⟨_, rfl⟩
  obtain ⟨l2, hl2⟩ : ∃ l, xa.kids.length = l := ⟨_, rfl⟩
  rw [hl2] at h2
  obtain ⟨l3, hl3⟩ : ∃ l, xm.kids.length = l := ⟨_, rfl⟩
  rw [hl3] at h3
  obtain ⟨l4, hl4⟩ : ∃ l, xr.kids.length = l := ⟨_, rfl⟩
  rw [hl4] at h4
  obtain ⟨l5, hl5⟩ : ∃ l, xt.kids.length = l := ⟨_, rfl⟩
  rw [hl5] at h5
  obtain ⟨l6, hl6⟩ : ∃ l, xl.kids.length = l := ⟨_, rfl⟩
  rw [hl6] at h6
  rw [hl1] at h1 HI1
  simp only [Nat.zero_mul, Nat.add_zero, Nat.one_mul, Nat.reduceMul] at h0 h1 h2 h3 h4 h5 h6
  clear i0 i1 i2 i3 i4 i5 i6 hcells h
  have hs : ((((w.alloc (.cells #[.int .i64 x.kind, .int .i64 x.n, .string x.s, .slice (some ⟨ib, io, none⟩) 7 c] 71)).alloc Z7).alloc (.cells #[.bool q0] 4)).alloc (.cells #[.func (.func 70) #[] #[.pointer (some ⟨b + 1 + 1, 0, none⟩)]] 126)).heap.size = b + 4 := by simp [hb]
  have hB : Below b w ((((w.alloc (.cells #[.int .i64 x.kind, .int .i64 x.n, .string x.s, .slice (some ⟨ib, io, none⟩) 7 c] 71)).alloc Z7).alloc (.cells #[.bool q0] 4)).alloc (.cells #[.func (.func 70) #[] #[.pointer (some ⟨b + 1 + 1, 0, none⟩)]] 126)) := by
    rw [← hb]
    exact ((((Below.refl _ _).alloc (Nat.le_refl _) _).alloc (by simp) _).alloc (by simp; omega) _).alloc (by simp; omega) _
  have hZ : ((((w.alloc (.cells #[.int .i64 x.kind, .int .i64 x.n, .string x.s, .slice (some ⟨ib, io, none⟩) 7 c] 71)).alloc Z7).alloc (.cells #[.bool q0] 4)).alloc (.cells #[.func (.func 70) #[] #[.pointer (some ⟨b + 1 + 1, 0, none⟩)]] 126)).heap[b + 1]? = some Z7 := by
    have h1 := heap_alloc_new (w.alloc (.cells #[.int .i64 x.kind, .int .i64 x.n, .string x.s, .slice (some ⟨ib, io, none⟩) 7 c] 71)) Z7
    rw [World.size_alloc, hb] at h1
    exact ((((Below.refl _ _).alloc (Nat.le_refl _) (.cells #[.bool q0] 4)).alloc (by simp) (.cells #[.func (.func 70) #[] #[.pointer (some ⟨b + 1 + 1, 0, none⟩)]] 126)).block (b + 1) (by simp [hb])).trans h1
  have hQ : BoolAt ((((w.alloc (.cells #[.int .i64 x.kind, .int .i64 x.n, .string x.s, .slice (some ⟨ib, io, none⟩) 7 c] 71)).alloc Z7).alloc (.cells #[.bool q0] 4)).alloc (.cells #[.func (.func 70) #[] #[.pointer (some ⟨b + 1 + 1, 0, none⟩)]] 126)) (b + 1 + 1) q0 := by
    have h1 := heap_alloc_new ((w.alloc (.cells #[.int .i64 x.kind, .int .i64 x.n, .string x.s, .slice (some ⟨ib, io, none⟩) 7 c] 71)).alloc Z7) (.cells #[.bool q0] 4)
    rw [World.size_alloc, World.size_alloc, hb] at h1
    exact (((Below.refl _ _).alloc (Nat.le_refl _) (.cells #[.func (.func 70) #[] #[.pointer (some ⟨b + 1 + 1, 0, none⟩)]] 126)).block (b + 1 + 1) (by simp [hb])).trans h1
  have hF : FuncAt ((((w.alloc (.cells #[.int .i64 x.kind, .int .i64 x.n, .string x.s, .slice (some ⟨ib, io, none⟩) 7 c] 71)).alloc Z7).alloc (.cells #[.bool q0] 4)).alloc (.cells #[.func (.func 70) #[] #[.pointer (some ⟨b + 1 + 1, 0, none⟩)]] 126)) (b + 1 + 1 + 1) (b + 1 + 1) := by
    have h1 := heap_alloc_new (((w.alloc (.cells #[.int .i64 x.kind, .int .i64 x.n, .string x.s, .slice (some ⟨ib, io, none⟩) 7 c] 71)).alloc Z7).alloc (.cells #[.bool q0] 4)) (.cells #[.func (.func 70) #[] #[.pointer (some ⟨b + 1 + 1, 0, none⟩)]] 126)
    rw [World.size_alloc, World.size_alloc, World.size_alloc, hb] at h1
    exact h1
  have HS := Lib.hid hs
  have HB := Lib.hid hB
  have HZ := Lib.hid hZ
  have HQ := Lib.hid hQ
  have HF := Lib.hid hF
  have HBB := Lib.hid hb
  have HX : Hid (∀ W, Below b w W → FuncAt W (b + 1 + 1 + 1) (b + 1 + 1) → Six W ib io xk xa xm xr xt xl A0 A2 A3 A4 A5 A6 l0 l2 l3 l4 l5 l6 c0 c2 c3 c4 c5 c6 (b + 1 + 1 + 1) (b + 1 + 1)) := Lib.hid fun W hW hFW =>
    have e := hW.block ib (by omega)
    ⟨h0.keep e, h2.keep e, h3.keep e, h4.keep e, h5.keep e, h6.keep e, hFW⟩
  have H1 : Hid (∀ W, Below b w W → Cells4 W ib (io + 4) xi (.slice A1 l1 c1)) := Lib.hid fun W hW => h1.keep (hW.block ib (by omega))
  have i1 := h1
  obtain ⟨m0, m1, m2, m3⟩ := h1
  have HQ0 := Lib.hid hq0
  clear hs hB hZ hQ hF h0 h2 h3 h4 h5 h6 i1
  go_enter Try.func62, Try.ntmps62
  go_upto_region 7 with fail
  have hs := HS.out
  have hB := HB.out
  have hZ := HZ.out
  have hQ := HQ.out
  have hF := HF.out
  clear HS HB HZ HQ HF hq0 m0 m1 m2 m3
  generalize ((((w.alloc (.cells #[.int .i64 x.kind, .int .i64 x.n, .string x.s, .slice (some ⟨ib, io, none⟩) 7 c] 71)).alloc Z7).alloc (.cells #[.bool q0] 4)).alloc (.cells #[.func (.func 70) #[] #[.pointer (some ⟨b + 1 + 1, 0, none⟩)]] 126)) = w1 at hs hB hZ hQ hF ⊢
  have hs4 : b + 1 + 1 < w1.heap.size := by omega
  obtain ⟨rk, hrk⟩ : ∃ q : Bool, ((xk.kind : Int) == 0) = q := ⟨_, rfl⟩
  have HRK := Lib.hid hrk
  obtain ⟨ra, hra⟩ : ∃ q : Bool, ((xa.kind : Int) == 0) = q := ⟨_, rfl⟩
  have HRA := Lib.hid hra
  obtain ⟨rm, hrm⟩ : ∃ q : Bool, ((xm.kind : Int) == 0) = q := ⟨_, rfl⟩
  have HRM := Lib.hid hrm
  obtain ⟨rr, hrr⟩ : ∃ q : Bool, ((xr.kind : Int) == 0) = q := ⟨_, rfl⟩
  have HRR := Lib.hid hrr
  obtain ⟨rt, hrt⟩ : ∃ q : Bool, ((xt.kind : Int) == 0) = q := ⟨_, rfl⟩
  have HRT := Lib.hid hrt
  obtain ⟨rl, hrl⟩ : ∃ q : Bool, ((xl.kind : Int) == 0) = q := ⟨_, rfl⟩
  have HRL := Lib.hid hrl
  obtain ⟨vm, hvm⟩ : ∃ v, (xm.n % 4294967296).toNat = v := ⟨_, rfl⟩
  obtain ⟨sm, hsm⟩ : ∃ q, (small xm.n).isSome = q := ⟨_, rfl⟩
  have HVM := Lib.hid hvm
  have HSM := Lib.hid hsm
  obtain ⟨vl, hvl⟩ : ∃ v, (xl.n % 4294967296).toNat = v := ⟨_, rfl⟩
  obtain ⟨sl, hsl⟩ : ∃ q, (small xl.n).isSome = q := ⟨_, rfl⟩
  have HVL := Lib.hid hvl
  have HSL := Lib.hid hsl
  clear hrk hra hrm hrr hrt hrl hvm hsm hvl hsl
  have HXX : Hid (∀ W, w1.grownBy W (some (b + 1 + 1)) → Six W ib io xk xa xm xr xt xl A0 A2 A3 A4 A5 A6 l0 l2 l3 l4 l5 l6 c0 c2 c3 c4 c5 c6 (b + 1 + 1 + 1) (b + 1 + 1)) := Lib.hid fun W hW =>
    have hBW : Below b w W := hB.grown hW (by omega) (fun k hk => by simp only [Option.some.injEq] at hk; omega)
    HX.out W hBW ((hW.block (b + 1 + 1 + 1) (by omega) (by simp only [ne_eq, Option.some.injEq]; omega)).trans hF)
  have HFX : Hid (∀ W, w1.grownBy W (some (b + 1 + 1)) → FuncAt W (b + 1 + 1 + 1) (b + 1 + 1)) := Lib.hid fun W hW => (hW.block (b + 1 + 1 + 1) (by omega) (by simp only [ne_eq, Option.some.injEq]; omega)).trans hF
  have HBW := Lib.hid hB
  have HZW := Lib.hid hZ
  have HQW := Lib.hid hQ
  have HFW := Lib.hid hF
  have HSW := Lib.hid hs
  clear hB hZ hQ hF hs
  go_cut [8] (fun p8 wx => ∃ ob, p8 = .pointer (some ⟨ob, 0, none⟩) ∧ Hid (OpS w1 wx (b + 1 + 1) ob ((((((q0 && rk) && ra) && rm && sm) && rr) && rt) && rl && sl) ⟨xk.n, [], xa.n, vm, xr.n, xt.n, vl⟩))
  case first =>
    have T : Hid (w1.grownBy w1.drew (some (b + 1 + 1))) := Lib.hid ⟨rfl, rfl, rfl, Nat.le_refl _, fun _ _ _ => rfl⟩
    have Q : Hid (BoolAt w1.drew (b + 1 + 1) q0) := Lib.hid HQW.out
    refine wp_region_noPanic ?_
    refine wp_region_held_float (C := fun w' => w1.grownBy w' (some (b + 1 + 1))) [0, 1, 2, 3, 5, 6, 7, 8, 10, 11, 12, 13, 15, 16, 17, 18, 20, 21, 22, 23, 25, 26, 27, 28] [4, 9, 14, 19, 24, 29, 30, 32] 31 32 (by kernel_rfl) (by kernel_rfl) (fun _ _ _ _ _ h => h) ?_ ?_
    · exact T.out
    iterate 24
      refine heldI_step (v := ?_) rfl (by rfl) (fun w' hw' => ?_) ?_
      rotate_left
      · obtain ⟨⟨k0, k1, k2, k3⟩, ⟨m0, m1, m2, m3⟩, ⟨n0, n1, n2, n3⟩, ⟨o0, o1, o2, o3⟩, ⟨p0, p1, p2, p3⟩, ⟨s0, s1, s2, s3⟩, hf⟩ := HXX.out w' hw'
        have f0 := hf.cell
        clear hf
        go_simp
        all_goals with_reducible rfl
      simp only [Act.put, List.getElem_toArray, List.getElem_cons_succ, List.getElem_cons_zero, List.setIfInBounds_toArray, List.set_cons_succ, List.set_cons_zero]
    refine heldI_nil ?_
    refine floatI_step rfl rfl ?_ ?_
    · trace "F0"
      go_wp2_with fail
      have T1 : Hid (w1.grownBy (w1.alloc Z7).drew (some (b + 1 + 1))) := Lib.hid (T.out.trans (World.grownBy_alloc w1.drew Z7 _))
      have Q1 : Hid (BoolAt (w1.alloc Z7).drew (b + 1 + 1) q0) := Lib.hid (Q.out.alloc Z7)
      have ZZ1 : Hid ((w1.alloc Z7).drew.heap[w1.heap.size]? = some Z7 ∧ w1.heap.size ≤ w1.heap.size ∧ w1.heap.size < (w1.alloc Z7).drew.heap.size) := Lib.hid ⟨heap_alloc_new w1 _, Nat.le_refl _, by simp⟩
      refine ⟨T1.out, ?_⟩
      refine seqI_step rfl ?_
      go_wp2_with (go_at_call 70; ((with_reducible refine (number_calls xk.kind xk.n xk.s A0 l0 c0 (b + 1 + 1) _ rk HRK.out _ Q1.out).mono ?_); rintro e W2 ⟨rfl, hG, hBo⟩))
      have T2 := Lib.hid (T1.out.trans hG)
      have Q2 := Lib.hid hBo
      have ZZ2 : Hid (W2.heap[w1.heap.size]? = some Z7 ∧ w1.heap.size ≤ w1.heap.size ∧ w1.heap.size < W2.heap.size) := Lib.hid ⟨(hG.block _ ZZ1.out.2.2 (by have := ZZ1.out.2.1; simp only [ne_eq, Option.some.injEq]; omega)).trans ZZ1.out.1, ZZ1.out.2.1, Nat.lt_of_lt_of_le ZZ1.out.2.2 hG.size⟩
      refine ⟨T2.out, ?_⟩
      clear hG hBo
      refine seqI_step rfl ?_
      go_wp2_with (go_at_call 70; ((with_reducible refine (number_calls xa.kind xa.n xa.s A2 l2 c2 (b + 1 + 1) _ ra HRA.out _ Q2.out).mono ?_); rintro e W3 ⟨rfl, hG, hBo⟩))
      have T3 := Lib.hid (T2.out.trans hG)
      have Q3 := Lib.hid hBo
      have ZZ3 : Hid (W3.heap[w1.heap.size]? = some Z7 ∧ w1.heap.size ≤ w1.heap.size ∧ w1.heap.size < W3.heap.size) := Lib.hid ⟨(hG.block _ ZZ2.out.2.2 (by have := ZZ2.out.2.1; simp only [ne_eq, Option.some.injEq]; omega)).trans ZZ2.out.1, ZZ2.out.2.1, Nat.lt_of_lt_of_le ZZ2.out.2.2 hG.size⟩
      refine ⟨T3.out, ?_⟩
      clear hG hBo
      refine seqI_step rfl ?_
      go_wp2_with (go_at_call 71; ((with_reducible refine (smallNumber_calls xm.kind xm.n xm.s A3 l3 c3 (b + 1 + 1) (b + 1 + 1 + 1) _ rm sm HRM.out vm HVM.out HSM.out _ Q3.out (HFX.out _ T3.out)).mono ?_); rintro e W4 ⟨rfl, hG, hBo⟩))
      have T4 := Lib.hid (T3.out.trans hG)
      have Q4 := Lib.hid hBo
      have ZZ4 : Hid (W4.heap[w1.heap.size]? = some Z7 ∧ w1.heap.size ≤ w1.heap.size ∧ w1.heap.size < W4.heap.size) := Lib.hid ⟨(hG.block _ ZZ3.out.2.2 (by have := ZZ3.out.2.1; simp only [ne_eq, Option.some.injEq]; omega)).trans ZZ3.out.1, ZZ3.out.2.1, Nat.lt_of_lt_of_le ZZ3.out.2.2 hG.size⟩
      refine ⟨T4.out, ?_⟩
      clear hG hBo
      refine seqI_step rfl ?_
      go_wp2_with (go_at_call 70; ((with_reducible refine (number_calls xr.kind xr.n xr.s A4 l4 c4 (b + 1 + 1) _ rr HRR.out _ Q4.out).mono ?_); rintro e W5 ⟨rfl, hG, hBo⟩))
      have T5 := Lib.hid (T4.out.trans hG)
      have Q5 := Lib.hid hBo
      have ZZ5 : Hid (W5.heap[w1.heap.size]? = some Z7 ∧ w1.heap.size ≤ w1.heap.size ∧ w1.heap.size < W5.heap.size) := Lib.hid ⟨(hG.block _ ZZ4.out.2.2 (by have := ZZ4.out.2.1; simp only [ne_eq, Option.some.injEq]; omega)).trans ZZ4.out.1, ZZ4.out.2.1, Nat.lt_of_lt_of_le ZZ4.out.2.2 hG.size⟩
      refine ⟨T5.out, ?_⟩
      clear hG hBo
      refine seqI_step rfl ?_
      go_wp2_with (go_at_call 70; ((with_reducible refine (number_calls xt.kind xt.n xt.s A5 l5 c5 (b + 1 + 1) _ rt HRT.out _ Q5.out).mono ?_); rintro e W6 ⟨rfl, hG, hBo⟩))
      have T6 := Lib.hid (T5.out.trans hG)
      have Q6 := Lib.hid hBo
      have ZZ6 : Hid (W6.heap[w1.heap.size]? = some Z7 ∧ w1.heap.size ≤ w1.heap.size ∧ w1.heap.size < W6.heap.size) := Lib.hid ⟨(hG.block _ ZZ5.out.2.2 (by have := ZZ5.out.2.1; simp only [ne_eq, Option.some.injEq]; omega)).trans ZZ5.out.1, ZZ5.out.2.1, Nat.lt_of_lt_of_le ZZ5.out.2.2 hG.size⟩
      refine ⟨T6.out, ?_⟩
      clear hG hBo
      refine seqI_step rfl ?_
      go_wp2_with (go_at_call 71; ((with_reducible refine (smallNumber_calls xl.kind xl.n xl.s A6 l6 c6 (b + 1 + 1) (b + 1 + 1 + 1) _ rl sl HRL.out vl HVL.out HSL.out _ Q6.out (HFX.out _ T6.out)).mono ?_); rintro e W7 ⟨rfl, hG, hBo⟩))
      have T7 := Lib.hid (T6.out.trans hG)
      have Q7 := Lib.hid hBo
      have ZZ7 : Hid (W7.heap[w1.heap.size]? = some Z7 ∧ w1.heap.size ≤ w1.heap.size ∧ w1.heap.size < W7.heap.size) := Lib.hid ⟨(hG.block _ ZZ6.out.2.2 (by have := ZZ6.out.2.1; simp only [ne_eq, Option.some.injEq]; omega)).trans ZZ6.out.1, ZZ6.out.2.1, Nat.lt_of_lt_of_le ZZ6.out.2.2 hG.size⟩
      refine ⟨T7.out, ?_⟩
      clear hG hBo
      refine seqI_step rfl ?_
      go_wp2_with fail
      refine ⟨T7.out, ?_⟩
      obtain ⟨hz, hz1, hz2⟩ := ZZ7.out
      obtain ⟨⟨y0, y1, y2, y3, y4, y5, y6⟩, x0, x1, x2, x3, x4, x5, x6⟩ := box7 hz
      have hne : (b + 1 + 1) ≠ w1.heap.size := by omega
      have hfin : OpS w1 (((((((W7.setCell ⟨w1.heap.size, 0, none⟩ (.int .i64 xk.n)).setCell ⟨w1.heap.size, 1, none⟩ (.slice none 0 0)).setCell ⟨w1.heap.size, 2, none⟩ (.int .i64 xa.n)).setCell ⟨w1.heap.size, 3, none⟩ (.int .u32 (vm : Nat))).setCell ⟨w1.heap.size, 4, none⟩ (.int .i64 xr.n)).setCell ⟨w1.heap.size, 5, none⟩ (.int .i64 xt.n)).setCell ⟨w1.heap.size, 6, none⟩ (.int .u32 (vl : Nat))) (b + 1 + 1) w1.heap.size ((((((q0 && rk) && ra) && rm && sm) && rr) && rt) && rl && sl) ⟨xk.n, [], xa.n, vm, xr.n, xt.n, vl⟩ :=
        ⟨grown_over T7.out (set7_grown _ _ _ _ _ _ _) hz1, (set7_other hne _ _ _ _ _ _ _).trans Q7.out, hz1, stored7 hz _ _ _ _ _ _ _⟩
      have HFIN := Lib.hid hfin
      clear hfin hz
      refine seqI_last rfl ?_
      go_wp2_with fail
      refine NoPanic.normal ?_
      go_wp2_with fail
      go_meet
      exact ⟨_, rfl, HFIN⟩
    · go_wp2_with (go_at_call 70; ((with_reducible refine (number_calls xk.kind xk.n xk.s A0 l0 c0 (b + 1 + 1) _ rk HRK.out _ Q.out).mono ?_); rintro e W9 ⟨rfl, hG, hBo⟩))
      have T9 := Lib.hid (T.out.trans hG)
      have Q9 := Lib.hid hBo
      refine ⟨T9.out, ?_⟩
      clear hG hBo
      refine floatI_step rfl rfl ?_ ?_
      · trace "F1"
        go_wp2_with fail
        have T10 := Lib.hid (T9.out.trans (World.grownBy_alloc W9 Z7 _))
        have Q10 := Lib.hid (Q9.out.alloc Z7)
        have ZZ10 : Hid ((W9.alloc Z7).heap[W9.heap.size]? = some Z7 ∧ w1.heap.size ≤ W9.heap.size ∧ W9.heap.size < (W9.alloc Z7).heap.size) := Lib.hid ⟨heap_alloc_new _ _, T9.out.size, by simp⟩
        refine ⟨T10.out, ?_⟩
        refine seqI_step rfl ?_
        go_wp2_with (go_at_call 70; ((with_reducible refine (number_calls xa.kind xa.n xa.s A2 l2 c2 (b + 1 + 1) _ ra HRA.out _ Q10.out).mono ?_); rintro e W11 ⟨rfl, hG, hBo⟩))
        have T11 := Lib.hid (T10.out.trans hG)
        have Q11 := Lib.hid hBo
        have ZZ11 : Hid (W11.heap[W9.heap.size]? = some Z7 ∧ w1.heap.size ≤ W9.heap.size ∧ W9.heap.size < W11.heap.size) := Lib.hid ⟨(hG.block _ ZZ10.out.2.2 (by have := ZZ10.out.2.1; simp only [ne_eq, Option.some.injEq]; omega)).trans ZZ10.out.1, ZZ10.out.2.1, Nat.lt_of_lt_of_le ZZ10.out.2.2 hG.size⟩
        refine ⟨T11.out, ?_⟩
        clear hG hBo
        refine seqI_step rfl ?_
        go_wp2_with (go_at_call 71; ((with_reducible refine (smallNumber_calls xm.kind xm.n xm.s A3 l3 c3 (b + 1 + 1) (b + 1 + 1 + 1) _ rm sm HRM.out vm HVM.out HSM.out _ Q11.out (HFX.out _ T11.out)).mono ?_); rintro e W12 ⟨rfl, hG, hBo⟩))
        have T12 := Lib.hid (T11.out.trans hG)
        have Q12 := Lib.hid hBo
        have ZZ12 : Hid (W12.heap[W9.heap.size]? = some Z7 ∧ w1.heap.size ≤ W9.heap.size ∧ W9.heap.size < W12.heap.size) := Lib.hid ⟨(hG.block _ ZZ11.out.2.2 (by have := ZZ11.out.2.1; simp only [ne_eq, Option.some.injEq]; omega)).trans ZZ11.out.1, ZZ11.out.2.1, Nat.lt_of_lt_of_le ZZ11.out.2.2 hG.size⟩
        refine ⟨T12.out, ?_⟩
        clear hG hBo
        refine seqI_step rfl ?_
        go_wp2_with (go_at_call 70; ((with_reducible refine (number_calls xr.kind xr.n xr.s A4 l4 c4 (b + 1 + 1) _ rr HRR.out _ Q12.out).mono ?_); rintro e W13 ⟨rfl, hG, hBo⟩))
        have T13 := Lib.hid (T12.out.trans hG)
        have Q13 := Lib.hid hBo
        have ZZ13 : Hid (W13.heap[W9.heap.size]? = some Z7 ∧ w1.heap.size ≤ W9.heap.size ∧ W9.heap.size < W13.heap.size) := Lib.hid ⟨(hG.block _ ZZ12.out.2.2 (by have := ZZ12.out.2.1; simp only [ne_eq, Option.some.injEq]; omega)).trans ZZ12.out.1, ZZ12.out.2.1, Nat.lt_of_lt_of_le ZZ12.out.2.2 hG.size⟩
        refine ⟨T13.out, ?_⟩
        clear hG hBo
        refine seqI_step rfl ?_
        go_wp2_with (go_at_call 70; ((with_reducible refine (number_calls xt.kind xt.n xt.s A5 l5 c5 (b + 1 + 1) _ rt HRT.out _ Q13.out).mono ?_); rintro e W14 ⟨rfl, hG, hBo⟩))
        have T14 := Lib.hid (T13.out.trans hG)
        have Q14 := Lib.hid hBo
        have ZZ14 : Hid (W14.heap[W9.heap.size]? = some Z7 ∧ w1.heap.size ≤ W9.heap.size ∧ W9.heap.size < W14.heap.size) := Lib.hid ⟨(hG.block _ ZZ13.out.2.2 (by have := ZZ13.out.2.1; simp only [ne_eq, Option.some.injEq]; omega)).trans ZZ13.out.1, ZZ13.out.2.1, Nat.lt_of_lt_of_le ZZ13.out.2.2 hG.size⟩
        refine ⟨T14.out, ?_⟩
        clear hG hBo
        refine seqI_step rfl ?_
        go_wp2_with (go_at_call 71; ((with_reducible refine (smallNumber_calls xl.kind xl.n xl.s A6 l6 c6 (b + 1 + 1) (b + 1 + 1 + 1) _ rl sl HRL.out vl HVL.out HSL.out _ Q14.out (HFX.out _ T14.out)).mono ?_); rintro e W15 ⟨rfl, hG, hBo⟩))
        have T15 := Lib.hid (T14.out.trans hG)
        have Q15 := Lib.hid hBo
        have ZZ15 : Hid (W15.heap[W9.heap.size]? = some Z7 ∧ w1.heap.size ≤ W9.heap.size ∧ W9.heap.size < W15.heap.size) := Lib.hid ⟨(hG.block _ ZZ14.out.2.2 (by have := ZZ14.out.2.1; simp only [ne_eq, Option.some.injEq]; omega)).trans ZZ14.out.1, ZZ14.out.2.1, Nat.lt_of_lt_of_le ZZ14.out.2.2 hG.size⟩
        refine ⟨T15.out, ?_⟩
        clear hG hBo
        refine seqI_step rfl ?_
        go_wp2_with fail
        refine ⟨T15.out, ?_⟩
        obtain ⟨hz, hz1, hz2⟩ := ZZ15.out
        obtain ⟨⟨y0, y1, y2, y3, y4, y5, y6⟩, x0, x1, x2, x3, x4, x5, x6⟩ := box7 hz
        have hne : (b + 1 + 1) ≠ W9.heap.size := by omega
        have hfin : OpS w1 (((((((W15.setCell ⟨W9.heap.size, 0, none⟩ (.int .i64 xk.n)).setCell ⟨W9.heap.size, 1, none⟩ (.slice none 0 0)).setCell ⟨W9.heap.size, 2, none⟩ (.int .i64 xa.n)).setCell ⟨W9.heap.size, 3, none⟩ (.int .u32 (vm : Nat))).setCell ⟨W9.heap.size, 4, none⟩ (.int .i64 xr.n)).setCell ⟨W9.heap.size, 5, none⟩ (.int .i64 xt.n)).setCell ⟨W9.heap.size, 6, none⟩ (.int .u32 (vl : Nat))) (b + 1 + 1) W9.heap.size ((((((q0 && rk) && ra) && rm && sm) && rr) && rt) && rl && sl) ⟨xk.n, [], xa.n, vm, xr.n, xt.n, vl⟩ :=
          ⟨grown_over T15.out (set7_grown _ _ _ _ _ _ _) hz1, (set7_other hne _ _ _ _ _ _ _).trans Q15.out, hz1, stored7 hz _ _ _ _ _ _ _⟩
        have HFIN := Lib.hid hfin
        clear hfin hz
        refine seqI_last rfl ?_
        go_wp2_with fail
        refine NoPanic.normal ?_
        go_wp2_with fail
        go_meet
        exact ⟨_, rfl, HFIN⟩
      · go_wp2_with (go_at_call 70; ((with_reducible refine (number_calls xa.kind xa.n xa.s A2 l2 c2 (b + 1 + 1) _ ra HRA.out _ Q9.out).mono ?_); rintro e W17 ⟨rfl, hG, hBo⟩))
        have T17 := Lib.hid (T9.out.trans hG)
        have Q17 := Lib.hid hBo
        refine ⟨T17.out, ?_⟩
        clear hG hBo
        refine floatI_step rfl rfl ?_ ?_
        · trace "F2"
          go_wp2_with fail
          have T18 := Lib.hid (T17.out.trans (World.grownBy_alloc W17 Z7 _))
          have Q18 := Lib.hid (Q17.out.alloc Z7)
          have ZZ18 : Hid ((W17.alloc Z7).heap[W17.heap.size]? = some Z7 ∧ w1.heap.size ≤ W17.heap.size ∧ W17.heap.size < (W17.alloc Z7).heap.size) := Lib.hid ⟨heap_alloc_new _ _, T17.out.size, by simp⟩
          refine ⟨T18.out, ?_⟩
          refine seqI_step rfl ?_
          go_wp2_with (go_at_call 71; ((with_reducible refine (smallNumber_calls xm.kind xm.n xm.s A3 l3 c3 (b + 1 + 1) (b + 1 + 1 + 1) _ rm sm HRM.out vm HVM.out HSM.out _ Q18.out (HFX.out _ T18.out)).mono ?_); rintro e W19 ⟨rfl, hG, hBo⟩))
          have T19 := Lib.hid (T18.out.trans hG)
          have Q19 := Lib.hid hBo
          have ZZ19 : Hid (W19.heap[W17.heap.size]? = some Z7 ∧ w1.heap.size ≤ W17.heap.size ∧ W17.heap.size < W19.heap.size) := Lib.hid ⟨(hG.block _ ZZ18.out.2.2 (by have := ZZ18.out.2.1; simp only [ne_eq, Option.some.injEq]; omega)).trans ZZ18.out.1, ZZ18.out.2.1, Nat.lt_of_lt_of_le ZZ18.out.2.2 hG.size⟩
          refine ⟨T19.out, ?_⟩
          clear hG hBo
          refine seqI_step rfl ?_
          go_wp2_with (go_at_call 70; ((with_reducible refine (number_calls xr.kind xr.n xr.s A4 l4 c4 (b + 1 + 1) _ rr HRR.out _ Q19.out).mono ?_); rintro e W20 ⟨rfl, hG, hBo⟩))
          have T20 := Lib.hid (T19.out.trans hG)
          have Q20 := Lib.hid hBo
          have ZZ20 : Hid (W20.heap[W17.heap.size]? = some Z7 ∧ w1.heap.size ≤ W17.heap.size ∧ W17.heap.size < W20.heap.size) := Lib.hid ⟨(hG.block _ ZZ19.out.2.2 (by have := ZZ19.out.2.1; simp only [ne_eq, Option.some.injEq]; omega)).trans ZZ19.out.1, ZZ19.out.2.1, Nat.lt_of_lt_of_le ZZ19.out.2.2 hG.size⟩
          refine ⟨T20.out, ?_⟩
          clear hG hBo
          refine seqI_step rfl ?_
          go_wp2_with (go_at_call 70; ((with_reducible refine (number_calls xt.kind xt.n xt.s A5 l5 c5 (b + 1 + 1) _ rt HRT.out _ Q20.out).mono ?_); rintro e W21 ⟨rfl, hG, hBo⟩))
          have T21 := Lib.hid (T20.out.trans hG)
          have Q21 := Lib.hid hBo
          have ZZ21 : Hid (W21.heap[W17.heap.size]? = some Z7 ∧ w1.heap.size ≤ W17.heap.size ∧ W17.heap.size < W21.heap.size) := Lib.hid ⟨(hG.block _ ZZ20.out.2.2 (by have := ZZ20.out.2.1; simp only [ne_eq, Option.some.injEq]; omega)).trans ZZ20.out.1, ZZ20.out.2.1, Nat.lt_of_lt_of_le ZZ20.out.2.2 hG.size⟩
          refine ⟨T21.out, ?_⟩
          clear hG hBo
          refine seqI_step rfl ?_
          go_wp2_with (go_at_call 71; ((with_reducible refine (smallNumber_calls xl.kind xl.n xl.s A6 l6 c6 (b + 1 + 1) (b + 1 + 1 + 1) _ rl sl HRL.out vl HVL.out HSL.out _ Q21.out (HFX.out _ T21.out)).mono ?_); rintro e W22 ⟨rfl, hG, hBo⟩))
          have T22 := Lib.hid (T21.out.trans hG)
          have Q22 := Lib.hid hBo
          have ZZ22 : Hid (W22.heap[W17.heap.size]? = some Z7 ∧ w1.heap.size ≤ W17.heap.size ∧ W17.heap.size < W22.heap.size) := Lib.hid ⟨(hG.block _ ZZ21.out.2.2 (by have := ZZ21.out.2.1; simp only [ne_eq, Option.some.injEq]; omega)).trans ZZ21.out.1, ZZ21.out.2.1, Nat.lt_of_lt_of_le ZZ21.out.2.2 hG.size⟩
          refine ⟨T22.out, ?_⟩
          clear hG hBo
          refine seqI_step rfl ?_
          go_wp2_with fail
          refine ⟨T22.out, ?_⟩
          obtain ⟨hz, hz1, hz2⟩ := ZZ22.out
          obtain ⟨⟨y0, y1, y2, y3, y4, y5, y6⟩, x0, x1, x2, x3, x4, x5, x6⟩ := box7 hz
          have hne : (b + 1 + 1) ≠ W17.heap.size := by omega
          have hfin : OpS w1 (((((((W22.setCell ⟨W17.heap.size, 0, none⟩ (.int .i64 xk.n)).setCell ⟨W17.heap.size, 1, none⟩ (.slice none 0 0)).setCell ⟨W17.heap.size, 2, none⟩ (.int .i64 xa.n)).setCell ⟨W17.heap.size, 3, none⟩ (.int .u32 (vm : Nat))).setCell ⟨W17.heap.size, 4, none⟩ (.int .i64 xr.n)).setCell ⟨W17.heap.size, 5, none⟩ (.int .i64 xt.n)).setCell ⟨W17.heap.size, 6, none⟩ (.int .u32 (vl : Nat))) (b + 1 + 1) W17.heap.size ((((((q0 && rk) && ra) && rm && sm) && rr) && rt) && rl && sl) ⟨xk.n, [], xa.n, vm, xr.n, xt.n, vl⟩ :=
            ⟨grown_over T22.out (set7_grown _ _ _ _ _ _ _) hz1, (set7_other hne _ _ _ _ _ _ _).trans Q22.out, hz1, stored7 hz _ _ _ _ _ _ _⟩
          have HFIN := Lib.hid hfin
          clear hfin hz
          refine seqI_last rfl ?_
          go_wp2_with fail
          refine NoPanic.normal ?_
          go_wp2_with fail
          go_meet
          exact ⟨_, rfl, HFIN⟩
        · go_wp2_with (go_at_call 71; ((with_reducible refine (smallNumber_calls xm.kind xm.n xm.s A3 l3 c3 (b + 1 + 1) (b + 1 + 1 + 1) _ rm sm HRM.out vm HVM.out HSM.out _ Q17.out (HFX.out _ T17.out)).mono ?_); rintro e W24 ⟨rfl, hG, hBo⟩))
          have T24 := Lib.hid (T17.out.trans hG)
          have Q24 := Lib.hid hBo
          refine ⟨T24.out, ?_⟩
          clear hG hBo
          refine floatI_step rfl rfl ?_ ?_
          · trace "F3"
            go_wp2_with fail
            have T25 := Lib.hid (T24.out.trans (World.grownBy_alloc W24 Z7 _))
            have Q25 := Lib.hid (Q24.out.alloc Z7)
            have ZZ25 : Hid ((W24.alloc Z7).heap[W24.heap.size]? = some Z7 ∧ w1.heap.size ≤ W24.heap.size ∧ W24.heap.size < (W24.alloc Z7).heap.size) := Lib.hid ⟨heap_alloc_new _ _, T24.out.size, by simp⟩
            refine ⟨T25.out, ?_⟩
            refine seqI_step rfl ?_
            go_wp2_with (go_at_call 70; ((with_reducible refine (number_calls xr.kind xr.n xr.s A4 l4 c4 (b + 1 + 1) _ rr HRR.out _ Q25.out).mono ?_); rintro e W26 ⟨rfl, hG, hBo⟩))
            have T26 := Lib.hid (T25.out.trans hG)
            have Q26 := Lib.hid hBo
            have ZZ26 : Hid (W26.heap[W24.heap.size]? = some Z7 ∧ w1.heap.size ≤ W24.heap.size ∧ W24.heap.size < W26.heap.size) := Lib.hid ⟨(hG.block _ ZZ25.out.2.2 (by have := ZZ25.out.2.1; simp only [ne_eq, Option.some.injEq]; omega)).trans ZZ25.out.1, ZZ25.out.2.1, Nat.lt_of_lt_of_le ZZ25.out.2.2 hG.size⟩
            refine ⟨T26.out, ?_⟩
            clear hG hBo
            refine seqI_step rfl ?_
            go_wp2_with (go_at_call 70; ((with_reducible refine (number_calls xt.kind xt.n xt.s A5 l5 c5 (b + 1 + 1) _ rt HRT.out _ Q26.out).mono ?_); rintro e W27 ⟨rfl, hG, hBo⟩))
            have T27 := Lib.hid (T26.out.trans hG)
            have Q27 := Lib.hid hBo
            have ZZ27 : Hid (W27.heap[W24.heap.size]? = some Z7 ∧ w1.heap.size ≤ W24.heap.size ∧ W24.heap.size < W27.heap.size) := Lib.hid ⟨(hG.block _ ZZ26.out.2.2 (by have := ZZ26.out.2.1; simp only [ne_eq, Option.some.injEq]; omega)).trans ZZ26.out.1, ZZ26.out.2.1, Nat.lt_of_lt_of_le ZZ26.out.2.2 hG.size⟩
            refine ⟨T27.out, ?_⟩
            clear hG hBo
            refine seqI_step rfl ?_
            go_wp2_with (go_at_call 71; ((with_reducible refine (smallNumber_calls xl.kind xl.n xl.s A6 l6 c6 (b + 1 + 1) (b + 1 + 1 + 1) _ rl sl HRL.out vl HVL.out HSL.out _ Q27.out (HFX.out _ T27.out)).mono ?_); rintro e W28 ⟨rfl, hG, hBo⟩))
            have T28 := Lib.hid (T27.out.trans hG)
            have Q28 := Lib.hid hBo
            have ZZ28 : Hid (W28.heap[W24.heap.size]? = some Z7 ∧ w1.heap.size ≤ W24.heap.size ∧ W24.heap.size < W28.heap.size) := Lib.hid ⟨(hG.block _ ZZ27.out.2.2 (by have := ZZ27.out.2.1; simp only [ne_eq, Option.some.injEq]; omega)).trans ZZ27.out.1, ZZ27.out.2.1, Nat.lt_of_lt_of_le ZZ27.out.2.2 hG.size⟩
            refine ⟨T28.out, ?_⟩
            clear hG hBo
            refine seqI_step rfl ?_
            go_wp2_with fail
            refine ⟨T28.out, ?_⟩
            obtain ⟨hz, hz1, hz2⟩ := ZZ28.out
            obtain ⟨⟨y0, y1, y2, y3, y4, y5, y6⟩, x0, x1, x2, x3, x4, x5, x6⟩ := box7 hz
            have hne : (b + 1 + 1) ≠ W24.heap.size := by omega
            have hfin : OpS w1 (((((((W28.setCell ⟨W24.heap.size, 0, none⟩ (.int .i64 xk.n)).setCell ⟨W24.heap.size, 1, none⟩ (.slice none 0 0)).setCell ⟨W24.heap.size, 2, none⟩ (.int .i64 xa.n)).setCell ⟨W24.heap.size, 3, none⟩ (.int .u32 (vm : Nat))).setCell ⟨W24.heap.size, 4, none⟩ (.int .i64 xr.n)).setCell ⟨W24.heap.size, 5, none⟩ (.int .i64 xt.n)).setCell ⟨W24.heap.size, 6, none⟩ (.int .u32 (vl : Nat))) (b + 1 + 1) W24.heap.size ((((((q0 && rk) && ra) && rm && sm) && rr) && rt) && rl && sl) ⟨xk.n, [], xa.n, vm, xr.n, xt.n, vl⟩ :=
              ⟨grown_over T28.out (set7_grown _ _ _ _ _ _ _) hz1, (set7_other hne _ _ _ _ _ _ _).trans Q28.out, hz1, stored7 hz _ _ _ _ _ _ _⟩
            have HFIN := Lib.hid hfin
            clear hfin hz
            refine seqI_last rfl ?_
            go_wp2_with fail
            refine NoPanic.normal ?_
            go_wp2_with fail
            go_meet
            exact ⟨_, rfl, HFIN⟩
          · go_wp2_with (go_at_call 70; ((with_reducible refine (number_calls xr.kind xr.n xr.s A4 l4 c4 (b + 1 + 1) _ rr HRR.out _ Q24.out).mono ?_); rintro e W30 ⟨rfl, hG, hBo⟩))
            have T30 := Lib.hid (T24.out.trans hG)
            have Q30 := Lib.hid hBo
            refine ⟨T30.out, ?_⟩
            clear hG hBo
            refine floatI_step rfl rfl ?_ ?_
            · trace "F4"
              go_wp2_with fail
              have T31 := Lib.hid (T30.out.trans (World.grownBy_alloc W30 Z7 _))
              have Q31 := Lib.hid (Q30.out.alloc Z7)
              have ZZ31 : Hid ((W30.alloc Z7).heap[W30.heap.size]? = some Z7 ∧ w1.heap.size ≤ W30.heap.size ∧ W30.heap.size < (W30.alloc Z7).heap.size) := Lib.hid ⟨heap_alloc_new _ _, T30.out.size, by simp⟩
              refine ⟨T31.out, ?_⟩
              refine seqI_step rfl ?_
              go_wp2_with (go_at_call 70; ((with_reducible refine (number_calls xt.kind xt.n xt.s A5 l5 c5 (b + 1 + 1) _ rt HRT.out _ Q31.out).mono ?_); rintro e W32 ⟨rfl, hG, hBo⟩))
              have T32 := Lib.hid (T31.out.trans hG)
              have Q32 := Lib.hid hBo
              have ZZ32 : Hid (W32.heap[W30.heap.size]? = some Z7 ∧ w1.heap.size ≤ W30.heap.size ∧ W30.heap.size < W32.heap.size) := Lib.hid ⟨(hG.block _ ZZ31.out.2.2 (by have := ZZ31.out.2.1; simp only [ne_eq, Option.some.injEq]; omega)).trans ZZ31.out.1, ZZ31.out.2.1, Nat.lt_of_lt_of_le ZZ31.out.2.2 hG.size⟩
              refine ⟨T32.out, ?_⟩
              clear hG hBo
              refine seqI_step rfl ?_
              go_wp2_with (go_at_call 71; ((with_reducible refine (smallNumber_calls xl.kind xl.n xl.s A6 l6 c6 (b + 1 + 1) (b + 1 + 1 + 1) _ rl sl HRL.out vl HVL.out HSL.out _ Q32.out (HFX.out _ T32.out)).mono ?_); rintro e W33 ⟨rfl, hG, hBo⟩))
              have T33 := Lib.hid (T32.out.trans hG)
              have Q33 := Lib.hid hBo
              have ZZ33 : Hid (W33.heap[W30.heap.size]? = some Z7 ∧ w1.heap.size ≤ W30.heap.size ∧ W30.heap.size < W33.heap.size) := Lib.hid ⟨(hG.block _ ZZ32.out.2.2 (by have := ZZ32.out.2.1; simp only [ne_eq, Option.some.injEq]; omega)).trans ZZ32.out.1, ZZ32.out.2.1, Nat.lt_of_lt_of_le ZZ32.out.2.2 hG.size⟩
              refine ⟨T33.out, ?_⟩
              clear hG hBo
              refine seqI_step rfl ?_
              go_wp2_with fail
              refine ⟨T33.out, ?_⟩
              obtain ⟨hz, hz1, hz2⟩ := ZZ33.out
              obtain ⟨⟨y0, y1, y2, y3, y4, y5, y6⟩, x0, x1, x2, x3, x4, x5, x6⟩ := box7 hz
              have hne : (b + 1 + 1) ≠ W30.heap.size := by omega
              have hfin : OpS w1 (((((((W33.setCell ⟨W30.heap.size, 0, none⟩ (.int .i64 xk.n)).setCell ⟨W30.heap.size, 1, none⟩ (.slice none 0 0)).setCell ⟨W30.heap.size, 2, none⟩ (.int .i64 xa.n)).setCell ⟨W30.heap.size, 3, none⟩ (.int .u32 (vm : Nat))).setCell ⟨W30.heap.size, 4, none⟩ (.int .i64 xr.n)).setCell ⟨W30.heap.size, 5, none⟩ (.int .i64 xt.n)).setCell ⟨W30.heap.size, 6, none⟩ (.int .u32 (vl : Nat))) (b + 1 + 1) W30.heap.size ((((((q0 && rk) && ra) && rm && sm) && rr) && rt) && rl && sl) ⟨xk.n, [], xa.n, vm, xr.n, xt.n, vl⟩ :=
                ⟨grown_over T33.out (set7_grown _ _ _ _ _ _ _) hz1, (set7_other hne _ _ _ _ _ _ _).trans Q33.out, hz1, stored7 hz _ _ _ _ _ _ _⟩
              have HFIN := Lib.hid hfin
              clear hfin hz
              refine seqI_last rfl ?_
              go_wp2_with fail
              refine NoPanic.normal ?_
              go_wp2_with fail
              go_meet
              exact ⟨_, rfl, HFIN⟩
            · go_wp2_with (go_at_call 70; ((with_reducible refine (number_calls xt.kind xt.n xt.s A5 l5 c5 (b + 1 + 1) _ rt HRT.out _ Q30.out).mono ?_); rintro e W35 ⟨rfl, hG, hBo⟩))
              have T35 := Lib.hid (T30.out.trans hG)
              have Q35 := Lib.hid hBo
              refine ⟨T35.out, ?_⟩
              clear hG hBo
              refine floatI_step rfl rfl ?_ ?_
              · trace "F5"
                go_wp2_with fail
                have T36 := Lib.hid (T35.out.trans (World.grownBy_alloc W35 Z7 _))
                have Q36 := Lib.hid (Q35.out.alloc Z7)
                have ZZ36 : Hid ((W35.alloc Z7).heap[W35.heap.size]? = some Z7 ∧ w1.heap.size ≤ W35.heap.size ∧ W35.heap.size < (W35.alloc Z7).heap.size) := Lib.hid ⟨heap_alloc_new _ _, T35.out.size, by simp⟩
                refine ⟨T36.out, ?_⟩
                refine seqI_step rfl ?_
                go_wp2_with (go_at_call 71; ((with_reducible refine (smallNumber_calls xl.kind xl.n xl.s A6 l6 c6 (b + 1 + 1) (b + 1 + 1 + 1) _ rl sl HRL.out vl HVL.out HSL.out _ Q36.out (HFX.out _ T36.out)).mono ?_); rintro e W37 ⟨rfl, hG, hBo⟩))
                have T37 := Lib.hid (T36.out.trans hG)
                have Q37 := Lib.hid hBo
                have ZZ37 : Hid (W37.heap[W35.heap.size]? = some Z7 ∧ w1.heap.size ≤ W35.heap.size ∧ W35.heap.size < W37.heap.size) := Lib.hid ⟨(hG.block _ ZZ36.out.2.2 (by have := ZZ36.out.2.1; simp only [ne_eq, Option.some.injEq]; omega)).trans ZZ36.out.1, ZZ36.out.2.1, Nat.lt_of_lt_of_le ZZ36.out.2.2 hG.size⟩
                refine ⟨T37.out, ?_⟩
                clear hG hBo
                refine seqI_step rfl ?_
                go_wp2_with fail
                refine ⟨T37.out, ?_⟩
                obtain ⟨hz, hz1, hz2⟩ := ZZ37.out
                obtain ⟨⟨y0, y1, y2, y3, y4, y5, y6⟩, x0, x1, x2, x3, x4, x5, x6⟩ := box7 hz
                have hne : (b + 1 + 1) ≠ W35.heap.size := by omega
                have hfin : OpS w1 (((((((W37.setCell ⟨W35.heap.size, 0, none⟩ (.int .i64 xk.n)).setCell ⟨W35.heap.size, 1, none⟩ (.slice none 0 0)).setCell ⟨W35.heap.size, 2, none⟩ (.int .i64 xa.n)).setCell ⟨W35.heap.size, 3, none⟩ (.int .u32 (vm : Nat))).setCell ⟨W35.heap.size, 4, none⟩ (.int .i64 xr.n)).setCell ⟨W35.heap.size, 5, none⟩ (.int .i64 xt.n)).setCell ⟨W35.heap.size, 6, none⟩ (.int .u32 (vl : Nat))) (b + 1 + 1) W35.heap.size ((((((q0 && rk) && ra) && rm && sm) && rr) && rt) && rl && sl) ⟨xk.n, [], xa.n, vm, xr.n, xt.n, vl⟩ :=
                  ⟨grown_over T37.out (set7_grown _ _ _ _ _ _ _) hz1, (set7_other hne _ _ _ _ _ _ _).trans Q37.out, hz1, stored7 hz _ _ _ _ _ _ _⟩
                have HFIN := Lib.hid hfin
                clear hfin hz
                refine seqI_last rfl ?_
                go_wp2_with fail
                refine NoPanic.normal ?_
                go_wp2_with fail
                go_meet
                exact ⟨_, rfl, HFIN⟩
              · go_wp2_with (go_at_call 71; ((with_reducible refine (smallNumber_calls xl.kind xl.n xl.s A6 l6 c6 (b + 1 + 1) (b + 1 + 1 + 1) _ rl sl HRL.out vl HVL.out HSL.out _ Q35.out (HFX.out _ T35.out)).mono ?_); rintro e W39 ⟨rfl, hG, hBo⟩))
                have T39 := Lib.hid (T35.out.trans hG)
                have Q39 := Lib.hid hBo
                refine ⟨T39.out, ?_⟩
                clear hG hBo
                refine floatI_step rfl rfl ?_ ?_
                · trace "F6"
                  go_wp2_with fail
                  have T40 := Lib.hid (T39.out.trans (World.grownBy_alloc W39 Z7 _))
                  have Q40 := Lib.hid (Q39.out.alloc Z7)
                  have ZZ40 : Hid ((W39.alloc Z7).heap[W39.heap.size]? = some Z7 ∧ w1.heap.size ≤ W39.heap.size ∧ W39.heap.size < (W39.alloc Z7).heap.size) := Lib.hid ⟨heap_alloc_new _ _, T39.out.size, by simp⟩
                  refine ⟨T40.out, ?_⟩
                  refine seqI_step rfl ?_
                  go_wp2_with fail
                  refine ⟨T40.out, ?_⟩
                  have hfin : OpS w1 (W39.alloc (.cells #[.int .i64 xk.n, .slice none 0 0, .int .i64 xa.n, .int .u32 (vm : Nat), .int .i64 xr.n, .int .i64 xt.n, .int .u32 (vl : Nat)] 47)) (b + 1 + 1) W39.heap.size ((((((q0 && rk) && ra) && rm && sm) && rr) && rt) && rl && sl) ⟨xk.n, [], xa.n, vm, xr.n, xt.n, vl⟩ :=
                    ⟨T39.out.trans (World.grownBy_alloc W39 _ _), Q39.out.alloc _, T39.out.size, heap_alloc_new W39 _⟩
                  have HFIN := Lib.hid hfin
                  clear hfin
                  refine seqI_last rfl ?_
                  go_wp2_with fail
                  refine NoPanic.normal ?_
                  go_wp2_with fail
                  go_meet
                  exact ⟨_, rfl, HFIN⟩
                · go_wp2_with fail
                  refine ⟨T39.out, ?_⟩
                  refine floatI_last rfl ?_
                  go_wp2_with fail
                  have T43 := Lib.hid (T39.out.trans (World.grownBy_alloc W39 Z7 _))
                  have Q43 := Lib.hid (Q39.out.alloc Z7)
                  have ZZ43 : Hid ((W39.alloc Z7).heap[W39.heap.size]? = some Z7 ∧ w1.heap.size ≤ W39.heap.size ∧ W39.heap.size < (W39.alloc Z7).heap.size) := Lib.hid ⟨heap_alloc_new _ _, T39.out.size, by simp⟩
                  refine ⟨T43.out, ?_⟩
                  have hfin : OpS w1 (W39.alloc (.cells #[.int .i64 xk.n, .slice none 0 0, .int .i64 xa.n, .int .u32 (vm : Nat), .int .i64 xr.n, .int .i64 xt.n, .int .u32 (vl : Nat)] 47)) (b + 1 + 1) W39.heap.size ((((((q0 && rk) && ra) && rm && sm) && rr) && rt) && rl && sl) ⟨xk.n, [], xa.n, vm, xr.n, xt.n, vl⟩ :=
                    ⟨T39.out.trans (World.grownBy_alloc W39 _ _), Q39.out.alloc _, T39.out.size, heap_alloc_new W39 _⟩
                  have HFIN := Lib.hid hfin
                  clear hfin
                  refine seqI_last rfl ?_
                  go_wp2_with fail
                  refine NoPanic.normal ?_
                  go_wp2_with fail
                  go_meet
                  exact ⟨_, rfl, HFIN⟩
  case rest =>
    obtain ⟨ob, rfl, hcut⟩ := hcut
    obtain ⟨hG, hQ, hob, hO⟩ := hcut.out
    clear hcut
    obtain ⟨q6, hq6⟩ : ∃ q, ((((((q0 && rk) && ra) && rm && sm) && rr) && rt) && rl && sl) = q := ⟨_, rfl⟩
    rw [hq6] at hQ
    obtain ⟨o, ho⟩ : ∃ o, (⟨xk.n, [], xa.n, vm, xr.n, xt.n, vl⟩ : Opr) = o := ⟨_, rfl⟩
    rw [ho] at hO
    have hlow : Below b w wc := HBW.out.grown hG (by have := HSW.out; omega) (fun k hk => by simp only [Option.some.injEq] at hk; omega)
    have hRS : RdS w wc b ob q6 (withIns o []) none 0 0 := by
      have hs := HSW.out
      refine ⟨hlow, hQ, HFX.out wc hG, (hG.block _ (by omega) (by simp only [ne_eq, Option.some.injEq]; omega)).trans HZW.out, ?_, OwnI.nil _ _, by omega⟩
      rw [← ho] at hO ⊢
      exact hO
    obtain ⟨m0, m1, m2, m3⟩ := H1.out wc hlow
    have HRS := Lib.hid hRS
    have HQ6 := Lib.hid hq6
    have HOO := Lib.hid ho
    have hlb : l1 ≤ 1048576 := by rw [← hl1]; exact hxi
    have HXI := Lib.hid hxi
    have HX2 := Lib.hid hx
    have HL1 := Lib.hid hl1
    clear hG hQ hob hO hq6 ho hlow hRS HBW HZW HQW HFW HSW HFX HXX hx hxi H1 hb hl1 hl0 hl2 hl3 hl4 hl5 hl6
    go_wp2_with fail
    go_loopw [60] (fun i wr => ∃ k : Nat, i = .int .i64 k ∧ k ≤ l1 ∧ Hid (∃ A n c, RdS w wr b ob (q6 && allK (xi.kids.take k)) (withIns o ((xi.kids.take k).map Item.n)) A n c)) (fun i _ => l1 - (intOf i).toNat)
    case atStart => exact ⟨0, rfl, Nat.zero_le _, Lib.hid ⟨none, 0, 0, by have := HRS.out; simpa [allK] using this⟩⟩
    case round =>
      obtain ⟨k, rfl, hk, hR⟩ := hrel
      obtain ⟨A, n, c', hR⟩ := hR.out
      obtain ⟨q, hq⟩ : ∃ q, (q6 && allK (xi.kids.take k)) = q := ⟨_, rfl⟩
      rw [hq] at hR
      have hob := lt_of_some hR.box
      have hfar := hR.far
      have HR := Lib.hid hR
      have HQK := Lib.hid hq
      clear hR hq
      by_cases hlt : k < l1
      · obtain ⟨y, hy⟩ : ∃ y, xi.kids[k]? = some y := ⟨_, List.getElem?_eq_getElem (by rw [HL1.out]; exact hlt)⟩
        have hBw : Below w.heap.size w wr := by rw [HBB.out]; exact HR.out.low
        obtain ⟨jb, jo, rfl, hjb, hcells⟩ := (Items.low hBw HI1.out).at (by omega)
        obtain ⟨uy, ⟨y0, y1, y2, y3⟩, hiy⟩ := hcells k y hy
        obtain ⟨Ay, cy, rfl, _⟩ := hiy.form
        obtain ⟨ly, hly⟩ : ∃ ly, y.kids.length = ly := ⟨_, rfl⟩
        rw [hly] at y3
        obtain ⟨ry, hry⟩ : ∃ q : Bool, ((y.kind : Int) == 0) = q := ⟨_, rfl⟩
        have HRY := Lib.hid hry
        have HLT := Lib.hid hlt
        have HY := Lib.hid hy
        have hjw : jb < wr.heap.size := by have := hBw.size; omega
        obtain ⟨⟨z0, z1, z2, z3, z4, z5, z6⟩, f0, f1, f2, f3, f4, f5, f6⟩ := box7 HR.out.box
        have hfc := HR.out.fn.cell
        have hn0 : ob ≠ wr.heap.size := by omega
        have hn1 : b + 1 + 1 + 1 ≠ wr.heap.size := by omega
        have hox : BoolAt (wr.alloc (.cells #[.int .i64 y.kind, .int .i64 y.n, .string y.s, .slice Ay ly cy] 71)).drew (b + 1 + 1) q := HR.out.note.alloc _
        have hbx := heap_alloc_new wr (.cells #[.int .i64 y.kind, .int .i64 y.n, .string y.s, .slice Ay ly cy] 71)
        obtain ⟨⟨d0, d1, d2, d3⟩, _⟩ := box4_cells hbx
        have HBXA := Lib.hid hbx
        have HOX := Lib.hid hox
        have HCC : Hid (∀ W, (wr.alloc (.cells #[.int .i64 y.kind, .int .i64 y.n, .string y.s, .slice Ay ly cy] 71)).grownBy W (some (b + 1 + 1)) → W.cell? ⟨ob, 1, none⟩ = some (.slice A n c') ∧ W.cell? ⟨b + 1 + 1 + 1, 0, none⟩ = some (.func (.func 70) #[] #[.pointer (some ⟨b + 1 + 1, 0, none⟩)]) ∧ W.cell? ⟨wr.heap.size, 0, none⟩ = some (.int .i64 y.kind) ∧ W.cell? ⟨wr.heap.size, 1, none⟩ = some (.int .i64 y.n) ∧ W.cell? ⟨wr.heap.size, 2, none⟩ = some (.string y.s) ∧ W.cell? ⟨wr.heap.size, 3, none⟩ = some (.slice Ay ly cy) ∧ W.frozen? ⟨ob, 1, none⟩ = false) := Lib.hid fun W hW => by
          have e1 : W.heap[ob]? = wr.heap[ob]? := (hW.block ob (by simp; omega) (by simp only [ne_eq, Option.some.injEq]; omega)).trans (Below.heap_alloc wr _ ob hob)
          have e2 : W.heap[b + 1 + 1 + 1]? = wr.heap[b + 1 + 1 + 1]? := (hW.block (b + 1 + 1 + 1) (by simp; omega) (by simp only [ne_eq, Option.some.injEq]; omega)).trans (Below.heap_alloc wr _ (b + 1 + 1 + 1) (by omega))
          have e3 : W.heap[wr.heap.size]? = _ := (hW.block wr.heap.size (by simp) (by simp only [ne_eq, Option.some.injEq]; omega)).trans HBXA.out
          obtain ⟨⟨g0, g1, g2, g3⟩, _⟩ := box4_cells e3
          refine ⟨?_, ?_, g0, g1, g2, g3, ?_⟩
          · simp only [World.cell?, e1] at z1 ⊢; exact z1
          · simp only [World.cell?, e2] at hfc ⊢; exact hfc
          · simp only [World.frozen?, e1] at f1 ⊢; exact f1
        clear hcells hiy hy hry hBw hly hox hbx
        go_wp2_with fail
        refine wp_region_noPanic ?_
        refine wp_region_held_tail (C := fun W => W.cell? ⟨ob, 1, none⟩ = some (.slice A n c') ∧ W.cell? ⟨b + 1 + 1 + 1, 0, none⟩ = some (.func (.func 70) #[] #[.pointer (some ⟨b + 1 + 1, 0, none⟩)]) ∧ W.cell? ⟨wr.heap.size, 0, none⟩ = some (.int .i64 y.kind) ∧ W.cell? ⟨wr.heap.size, 1, none⟩ = some (.int .i64 y.n) ∧ W.cell? ⟨wr.heap.size, 2, none⟩ = some (.string y.s) ∧ W.cell? ⟨wr.heap.size, 3, none⟩ = some (.slice Ay ly cy)) [0, 1, 2, 3] [4, 5, 6, 7, 8] 8 (by kernel_rfl) (by kernel_rfl) (fun _ _ _ _ _ h => h) ?_ ?_
        · obtain ⟨g0, g1, g2, g3, g4, g5, _⟩ := HCC.out _ (World.grownBy.refl _ _)
          exact ⟨g0, g1, g2, g3, g4, g5⟩
        clear y0 y1 y2 y3 z0 z1 z2 z3 z4 z5 z6 f0 f1 f2 f3 f4 f5 f6 d0 d1 d2 d3 hfc
        iterate 4
          refine heldI_step (v := ?_) rfl (by rfl) (fun w' hw' => ?_) ?_
          rotate_left
          · obtain ⟨k0, k1, k2, k3, k4, k5⟩ := hw'
            go_simp
            all_goals with_reducible rfl
          simp only [Act.put, List.getElem_toArray, List.getElem_cons_succ, List.getElem_cons_zero, List.setIfInBounds_toArray, List.set_cons_succ, List.set_cons_zero]
        refine heldI_nil ?_
        refine seqI_step rfl ?_
        go_wp2_with (go_at_call 70; ((with_reducible refine (number_calls y.kind y.n y.s Ay ly cy (b + 1 + 1) q ry HRY.out _ HOX.out).mono ?_); rintro e W1 ⟨rfl, hG1, hB1⟩))
        obtain ⟨g0, g1, g2, g3, g4, g5, gf⟩ := HCC.out W1 ((show (wr.alloc (.cells #[.int .i64 y.kind, .int .i64 y.n, .string y.s, .slice Ay ly cy] 71)).grownBy (wr.alloc (.cells #[.int .i64 y.kind, .int .i64 y.n, .string y.s, .slice Ay ly cy] 71)).drew (some (b + 1 + 1)) from ⟨rfl, rfl, rfl, Nat.le_refl _, fun _ _ _ => rfl⟩).trans hG1)
        refine ⟨⟨g0, g1, g2, g3, g4, g5⟩, ?_⟩
        have hs1 : wr.heap.size + 1 ≤ W1.heap.size := by have := hG1.size; simpa using this
        have hO1 : OwnI W1 (ob + 1) (.slice A n c') ((xi.kids.take k).map Item.n) := by
          refine OwnI.keep (W := wr) HR.out.own fun g hg => ?_
          have h1 := HR.out.own.own hg
          exact (hG1.block g (by simp; omega) (by simp only [ne_eq, Option.some.injEq]; omega)).trans (Below.heap_alloc wr _ g h1.2)
        have hlen : ((xi.kids.take k).map Item.n).length ≤ 1048576 := by rw [List.length_map, List.length_take]; have := HXI.out; omega
        obtain ⟨v', W3, hrun, hO3, hG3, _⟩ := hO1.append (by omega) y.n 45 (by omega)
        have hins : (xi.kids.take k).map Item.n ++ [y.n] = (xi.kids.take (k + 1)).map Item.n := by rw [take_snoc HY.out, List.map_append]; rfl
        rw [hins] at hO3
        obtain ⟨A', c2, hv', _⟩ := hO3.form
        obtain ⟨n', hn'⟩ : ∃ n', ((xi.kids.take (k + 1)).map Item.n).length = n' := ⟨_, rfl⟩
        rw [hn'] at hv'
        subst hv'
        have hnx := HR.out.next (.cells #[.int .i64 y.kind, .int .i64 y.n, .string y.s, .slice Ay ly cy] 71) hG1 hB1 hG3 hO3
        have hqn : (q && ry) = (q6 && allK (xi.kids.take (k + 1))) := by rw [take_snoc HY.out, allK_snoc, HRY.out, ← Bool.and_assoc, HQK.out]
        rw [hqn] at hnx
        have hown : ∀ g, (Value.slice A n c').ownBlock = some g → ob + 1 ≤ g ∧ g < wr.heap.size := fun g hg => HR.out.own.own hg
        have hk3 : ∀ j, j < W1.heap.size → (j ≤ ob ∨ j = wr.heap.size) → W3.heap[j]? = W1.heap[j]? := fun j hj hor => hG3.block j hj (fun e => by have := hown j e.symm; omega)
        have g0' : W3.cell? ⟨ob, 1, none⟩ = some (.slice A n c') := by simp only [World.cell?, hk3 ob (by omega) (.inl (Nat.le_refl _))] at g0 ⊢; exact g0
        have gf' : W3.frozen? ⟨ob, 1, none⟩ = false := by simp only [World.frozen?, hk3 ob (by omega) (.inl (Nat.le_refl _))] at gf ⊢; exact gf
        have g1' : W3.cell? ⟨b + 1 + 1 + 1, 0, none⟩ = some (.func (.func 70) #[] #[.pointer (some ⟨b + 1 + 1, 0, none⟩)]) := by simp only [World.cell?, hk3 (b + 1 + 1 + 1) (by omega) (.inl (by omega))] at g1 ⊢; exact g1
        have g2' : W3.cell? ⟨wr.heap.size, 0, none⟩ = some (.int .i64 y.kind) := by simp only [World.cell?, hk3 wr.heap.size (by omega) (.inr rfl)] at g2 ⊢; exact g2
        have g3' : W3.cell? ⟨wr.heap.size, 1, none⟩ = some (.int .i64 y.n) := by simp only [World.cell?, hk3 wr.heap.size (by omega) (.inr rfl)] at g3 ⊢; exact g3
        have g4' : W3.cell? ⟨wr.heap.size, 2, none⟩ = some (.string y.s) := by simp only [World.cell?, hk3 wr.heap.size (by omega) (.inr rfl)] at g4 ⊢; exact g4
        have g5' : W3.cell? ⟨wr.heap.size, 3, none⟩ = some (.slice Ay ly cy) := by simp only [World.cell?, hk3 wr.heap.size (by omega) (.inr rfl)] at g5 ⊢; exact g5
        have hnext : RdS w (W3.setCell ⟨ob, 1, none⟩ (.slice A' n' c2)) b ob (q6 && allK (xi.kids.take (k + 1))) (withIns o ((xi.kids.take (k + 1)).map Item.n)) A' n' c2 := hnx
        have HNX := Lib.hid hnext
        have HRUN := Lib.hid hrun
        have hn2 : ob ≠ W1.heap.size := by omega
        have hn3 : b + 1 + 1 + 1 ≠ W1.heap.size := by omega
        have hn4 : wr.heap.size < W1.heap.size := by omega
        clear hnx hqn hG1 hB1 hO1 hO3 hG3 hrun hins hown hk3 hnext hn' hlen
        refine seqI_step rfl ?_
        go_wp2_with fail
        refine ⟨⟨cellA g0 _, cellA g1 _, cellA g2 _, cellA g3 _, cellA g4 _, cellA g5 _⟩, ?_⟩
        refine seqI_step rfl ?_
        simp only [List.getElem_toArray, List.getElem_cons_succ, List.getElem_cons_zero]
        go_wp2_with (at_builtin; refine wpList_append_ran rfl _ _ _ rfl rfl rfl HRUN.out ?_)
        refine ⟨⟨g0', g1', g2', g3', g4', g5'⟩, ?_⟩
        refine seqI_step rfl ?_
        go_wp2_with fail
        refine ⟨⟨g0', g1', g2', g3', g4', g5'⟩, ?_⟩
        refine seqI_last rfl ?_
        go_wp2_with fail
        refine NoPanic.normal ?_
        go_wp2_with fail
        go_roundw
        case rel => exact ⟨k + 1, by go_num, by have := HLT.out; omega, Lib.hid ⟨_, _, _, HNX.out⟩⟩
        case measure => have := HLT.out; simp [intOf]; omega
      · obtain rfl : k = l1 := by omega
        have hTk : xi.kids.take k = xi.kids := List.take_of_length_le (by rw [HL1.out]; exact Nat.le_refl _)
        have hR := HR.out
        rw [hTk] at hR HQK
        clear HR
        obtain ⟨⟨z0, z1, z2, z3, z4, z5, z6⟩, f0, f1, f2, f3, f4, f5, f6⟩ := box7 hR.box
        obtain ⟨t0, _⟩ := hR.note.cell
        obtain ⟨⟨r0, r1, r2, r3, r4, r5, r6⟩, s0, s1, s2, s3, s4, s5, s6⟩ := box7 hR.res
        have hfin := stored7 hR.res (.int .i64 o.kind) (.slice A n c') (.int .i64 o.arg) (.int .u32 (o.num : Nat)) (.int .i64 o.rounds) (.int .i64 o.test) (.int .u32 (o.lim : Nat))
        have hgr : wr.grownBy _ (some (b + 1)) := set7_grown (W := wr) (b := b + 1) (.int .i64 o.kind) (.slice A n c') (.int .i64 o.arg) (.int .u32 (o.num : Nat)) (.int .i64 o.rounds) (.int .i64 o.test) (.int .u32 (o.lim : Nat))
        have HFIN := Lib.hid hfin
        have HGR := Lib.hid hgr
        have HGD : Hid (wr.grownBy (((((((wr.setCell ⟨b + 1, 0, none⟩ (.int .i64 o.kind)).setCell ⟨b + 1, 1, none⟩ (.slice A n c')).setCell ⟨b + 1, 2, none⟩ (.int .i64 o.arg)).setCell ⟨b + 1, 3, none⟩ (.int .u32 (o.num : Nat))).setCell ⟨b + 1, 4, none⟩ (.int .i64 o.rounds)).setCell ⟨b + 1, 5, none⟩ (.int .i64 o.test)).setCell ⟨b + 1, 6, none⟩ (.int .u32 (o.lim : Nat))).drew (some (b + 1))) := Lib.hid (grown_drew hgr)
        have HR := Lib.hid hR
        have hob1 : ob ≠ b + 1 := by omega
        simp only [withIns] at z0 z1 z2 z3 z4 z5 z6
        clear hfin hgr hR f0 f1 f2 f3 f4 f5 f6 hTk
        go_wp2_with fail
        refine wp_region_noPanic ?_
        refine wp_region_held_tail (C := fun W => W.cell? ⟨ob, 0, none⟩ = some (.int .i64 o.kind) ∧ W.cell? ⟨ob, 1, none⟩ = some (.slice A n c') ∧ W.cell? ⟨ob, 2, none⟩ = some (.int .i64 o.arg) ∧ W.cell? ⟨ob, 3, none⟩ = some (.int .u32 (o.num : Nat)) ∧ W.cell? ⟨ob, 4, none⟩ = some (.int .i64 o.rounds) ∧ W.cell? ⟨ob, 5, none⟩ = some (.int .i64 o.test) ∧ W.cell? ⟨ob, 6, none⟩ = some (.int .u32 (o.lim : Nat)) ∧ W.cell? ⟨b + 1 + 1, 0, none⟩ = some (.bool q)) [0, 1] [2, 3] 3 (by kernel_rfl) (by kernel_rfl) (fun _ _ _ _ _ h => h) ?_ ?_
        · exact ⟨z0, z1, z2, z3, z4, z5, z6, t0⟩
        iterate 2
          refine heldI_step (v := ?_) rfl (by rfl) (fun w' hw' => ?_) ?_
          rotate_left
          · obtain ⟨k0, k1, k2, k3, k4, k5, k6, k7⟩ := hw'
            go_simp
            all_goals with_reducible rfl
          simp only [Act.put, List.getElem_toArray, List.getElem_cons_succ, List.getElem_cons_zero, List.setIfInBounds_toArray, List.set_cons_succ, List.set_cons_zero]
        refine heldI_nil ?_
        refine seqI_step rfl ?_
        go_wp2_with fail
        have hCC := HGD.out.cell z0 (by simp only [ne_eq, Option.some.injEq]; omega)
        refine ⟨⟨HGD.out.cell z0 (by simp only [ne_eq, Option.some.injEq]; omega), HGD.out.cell z1 (by simp only [ne_eq, Option.some.injEq]; omega), HGD.out.cell z2 (by simp only [ne_eq, Option.some.injEq]; omega), HGD.out.cell z3 (by simp only [ne_eq, Option.some.injEq]; omega), HGD.out.cell z4 (by simp only [ne_eq, Option.some.injEq]; omega), HGD.out.cell z5 (by simp only [ne_eq, Option.some.injEq]; omega), HGD.out.cell z6 (by simp only [ne_eq, Option.some.injEq]; omega), HGD.out.cell t0 (by simp only [ne_eq, Option.some.injEq]; omega)⟩, ?_⟩
        clear hCC
        refine seqI_last rfl ?_
        go_wp2_with fail
        refine NoPanic.normal ?_
        go_wp2_with fail
        have hfin := HFIN.out
        have hgr := HGR.out
        clear HFIN HGR HGD z0 z1 z2 z3 z4 z5 z6 r0 r1 r2 r3 r4 r5 r6 s0 s1 s2 s3 s4 s5 s6 t0
        generalize (((((((wr.setCell ⟨b + 1, 0, none⟩ (.int .i64 o.kind)).setCell ⟨b + 1, 1, none⟩ (.slice A n c')).setCell ⟨b + 1, 2, none⟩ (.int .i64 o.arg)).setCell ⟨b + 1, 3, none⟩ (.int .u32 (o.num : Nat))).setCell ⟨b + 1, 4, none⟩ (.int .i64 o.rounds)).setCell ⟨b + 1, 5, none⟩ (.int .i64 o.test)).setCell ⟨b + 1, 6, none⟩ (.int .u32 (o.lim : Nat))) = W at hfin hgr ⊢
        obtain ⟨⟨p0, p1, p2, p3, p4, p5, p6⟩, _⟩ := box7 hfin
        have hans := rdOp_seven HX2.out
        have hsome : (rdOp x).isSome = q := by
          rw [hans.1, ← HQK.out, ← HQ6.out, ← HQ0.out, ← HRK.out, ← HRA.out, ← HRM.out, ← HSM.out, ← HRR.out, ← HRT.out, ← HRL.out, ← HSL.out]
        have hW : Below b w W := HR.out.low.trans ⟨hgr.os, hgr.tape, hgr.output, hgr.size, fun j hj => hgr.block j (by have := HR.out.low.size; have := HBB.out; omega) (by simp only [ne_eq, Option.some.injEq]; omega)⟩
        refine bodyPost_ret (v := .tuple #[.agg #[.int .i64 o.kind, .slice A n c', .int .i64 o.arg, .int .u32 (o.num : Nat), .int .i64 o.rounds, .int .i64 o.test, .int .u32 (o.lim : Nat)], .bool q]) (by simp [results, Try.results62, go_sem, p0, p1, p2, p3, p4, p5, p6]) rfl ⟨withIns o (xi.kids.map Item.n), A, n, c', by rw [hsome]; rfl, fun o' h' => ?_, ?_⟩
        · refine ⟨?_, ?_⟩
          · rw [hans.2 o' h', ← HOO.out, HVM.out, HVL.out]
            rfl
          · have hI := HR.out.own.intsW
            refine hI.keep (fun j hj => hgr.block j hj.2 (by simp only [ne_eq, Option.some.injEq]; have := hj.1; omega)) (fun j hj => ⟨by have := hj.1; have := HBB.out; omega, Nat.lt_of_lt_of_le hj.2 hgr.size⟩)
        · rw [HBB.out]
          exact hW.drew

end Go.Proofs.Ytffehnojcajhiaa.Wire.Entry.U

namespace Go.Proofs.Ytffehnojcajhiaa.Wire.Entry.U
open Go Go.RowKit Go.Proofs.Ytffehnojcajhiaa.Law

theorem rdOp_short {x : Item} (h : x.kids.length ≠ 7) : rdOp x = none := by
  unfold rdOp
  split
  · rename_i hk
    rw [hk] at h
    exact absurd rfl h
  · rfl

theorem readOp_calls (x : Item) (A : Option Addr) (c : Nat) (w : World) (h : Old w.heap.size w (.slice A x.kids.length c) x.kids) (hk : ∀ y ∈ x.kids, y.kids.length ≤ 1048576) : Calls Try.prog 62 #[itemV x A c] w (RetOpr w (rdOp x)) := by
  by_cases h7 : x.kids.length = 7
  · unfold itemV
    rw [h7] at h ⊢
    match hx : x.kids, h7 with
    | [a, b, c', d, e, f, g], _ =>
      rw [hx] at hk
      exact readOp_long x a b c' d e f g hx (hk b (by simp)) A c w h
  · rw [rdOp_short h7]
    exact readOp_short x h7 A c w

end Go.Proofs.Ytffehnojcajhiaa.Wire.Entry.U

namespace Go.Proofs.Ytffehnojcajhiaa.Wire.Entry.U
open Go Go.RowKit Go.Proofs.Ytffehnojcajhiaa.Law

theorem rdOps_snoc {x : Item} {o : Opr} (hx : rdOp x = some o) : ∀ {l : List Item} {ops : List Opr}, rdOps l = some ops → rdOps (l ++ [x]) = some (ops ++ [o])
  | [], ops, h => by
    rw [rdOps] at h
    obtain rfl := Option.some.inj h
    show rdOps [x] = _
    rw [rdOps, hx]
    rfl
  | y :: r, ops, h => by
    rw [rdOps] at h
    match hy : rdOp y with
    | none => rw [hy] at h; cases h
    | some oy =>
      rw [hy] at h
      dsimp only at h
      match hr : rdOps r with
      | none => rw [hr] at h; cases h
      | some l =>
        rw [hr] at h
        obtain rfl := Option.some.inj h
        rw [List.cons_append, rdOps, hy]
        dsimp only
        rw [rdOps_snoc hx hr]
        rfl
theorem rdOps_bad {x : Item} (hx : rdOp x = none) : ∀ {l : List Item}, x ∈ l → rdOps l = none
  | [], h => by cases h
  | y :: r, h => by
    rw [rdOps]
    rcases List.mem_cons.1 h with rfl | h
    · rw [hx]
    · rw [rdOps_bad hx h]
      cases rdOp y <;> rfl
theorem rdOps_length : ∀ {l : List Item} {ops : List Opr}, rdOps l = some ops → ops.length = l.length
  | [], ops, h => by
    rw [rdOps] at h
    obtain rfl := Option.some.inj h
    rfl
  | y :: r, ops, h => by
    rw [rdOps] at h
    match hy : rdOp y with
    | none => rw [hy] at h; cases h
    | some oy =>
      rw [hy] at h
      dsimp only at h
      match hr : rdOps r with
      | none => rw [hr] at h; cases h
      | some l =>
        rw [hr] at h
        obtain rfl := Option.some.inj h
        rw [List.length_cons, List.length_cons, rdOps_length hr]
theorem kids_small {l : List Item} {x y : Item} (hs : nodesL l ≤ 4096) (hx : x ∈ l) (hy : y ∈ x.kids) : y.kids.length ≤ 1048576 := by
  obtain ⟨i, hi⟩ := List.getElem?_of_mem hx
  obtain ⟨j, hj⟩ := List.getElem?_of_mem hy
  have h1 := nodesL_kids hi
  have h2 := nodesL_kids hj
  have h3 := length_le_nodes y.kids
  omega
theorem kids_few {l : List Item} {x : Item} (hs : nodesL l ≤ 4096) (hx : x ∈ l) : x.kids.length ≤ 4096 ∧ nodesL x.kids ≤ 4096 := by
  obtain ⟨i, hi⟩ := List.getElem?_of_mem hx
  have h1 := nodesL_kids hi
  have h3 := length_le_nodes x.kids
  omega

abbrev Z1 : Obj := .cells #[.slice none 0 0] 27
theorem box1 {W : World} {b : Nat} {a : Value} {T : TypeId} (h : W.heap[b]? = some (.cells #[a] T)) : W.cell? ⟨b, 0, none⟩ = some a ∧ W.frozen? ⟨b, 0, none⟩ = false := by
  refine ⟨?_, ?_⟩ <;> simp [World.cell?, World.frozen?, h]
theorem stored1 {W : World} {b : Nat} {a : Value} {T : TypeId} (h : W.heap[b]? = some (.cells #[a] T)) (v : Value) : (W.setCell ⟨b, 0, none⟩ v).heap[b]? = some (.cells #[v] T) := by
  simp [World.setCell, Array.getElem?_modify, h]

/-- A graph that was read, and whether it was one. -/
def RetGraph (w : World) (r : Option (List Opr)) (e : Ending) (W : World) : Prop :=
  ∃ (A : Option Addr) (n c : Nat), e = .returned (.tuple #[.agg #[.slice A n c], .bool r.isSome]) ∧ (∀ ops, r = some ops → OpsW (fun k => w.heap.size ≤ k ∧ k < W.heap.size) W (.slice A n c) ops) ∧ Below w.heap.size w W

/-- What lies as the operators are read. -/
structure RdG (w W : World) (b g : Nat) (l : List Item) (A : Option Addr) (n c : Nat) (ops : List Opr) : Prop where
  low : Below b w W
  res : W.heap[b]? = some Z1
  box : W.heap[g]? = some (.cells #[.slice A n c] 27)
  far : b < g
  grow : GrowW (g + 1) W (.slice A n c) ops
  read : rdOps l = some ops

set_option maxRecDepth 100000 in
set_option maxHeartbeats 800000 in
theorem readGraph_calls (l : List Item) (hs : nodesL l ≤ 4096) (v : Value) (w : World) (hI : Old w.heap.size w v l) : Calls Try.prog 43 #[v] w (RetGraph w (rdGraph l)) := by
  obtain ⟨A, cap, rfl, _⟩ := hI.form
  have hl : l.length ≤ 1048576 := by have := length_le_nodes l; omega
  obtain ⟨g, hg⟩ := exB (kindsL l = [2])
  have hB0 := ((Below.refl w.heap.size w).alloc (Nat.le_refl _) Z1).alloc (by simp) (.cells #[.int .i64 2] 3)
  have hlit := ints_lit (w.alloc Z1) #[.int .i64 2] [2] 1 (w.heap.size + 1) (by simp) rfl rfl
  have CK := Lib.hid (kinds_calls l [2] hl _ _ _ (hI.on hB0) hlit g hg)
  have hR0 : ((w.alloc Z1).alloc (.cells #[.int .i64 2] 3)).heap[w.heap.size]? = some Z1 :=
    ((Below.refl _ _).alloc (Nat.le_refl _) _ |>.block w.heap.size (by simp)).trans (heap_alloc_new w _)
  obtain ⟨o, ho⟩ : ∃ o, rdGraph l = o := ⟨_, rfl⟩
  rw [ho]
  obtain ⟨len, hlen⟩ : ∃ len, l.length = len := ⟨_, rfl⟩
  rw [hlen] at hI CK ⊢
  have HB0 := Lib.hid hB0
  have HR0 := Lib.hid hR0
  have HI := Lib.hid hI
  have HG := Lib.hid hg
  have HO := Lib.hid ho
  have HL := Lib.hid hlen
  have HS := Lib.hid hs
  clear hB0 hI hg ho hl hlen hR0 hlit hs
  go_enter Try.func43, Try.ntmps43
  go_wp2_with fail
  refine CK.out.mono ?_
  rintro e w1 ⟨rfl, hB1⟩
  have hbox := (hB1.block w.heap.size (by simp; omega)).trans HR0.out
  have hB01 := HB0.out.trans (hB1.mono (by simp; omega))
  have hs1 : w.heap.size < w1.heap.size := by have := hB1.size; simp at this; omega
  have HB1 := Lib.hid hB01
  have HBX := Lib.hid hbox
  obtain ⟨q0, z0⟩ := box1 hbox
  clear hB1 HB0 CK hbox hB01 HR0
  cases g with
  | false =>
    have ho : o = none := by
      rw [← HO.out]
      match l, HG.out with
      | [a], h =>
        rw [rdGraph, if_neg]
        intro hka
        have := h.2 (by simp [kindsL, hka])
        cases this
      | [], _ => rfl
      | _ :: _ :: _, _ => rfl
    subst ho
    have hfin := stored1 HBX.out (.slice none 0 0)
    have hBf := HB1.out.setCell (p := ⟨w.heap.size, 0, none⟩) (Nat.le_refl _) (.slice none 0 0)
    have HF := Lib.hid hfin
    have HBF := Lib.hid hBf
    clear hfin hBf HG HO
    go_wp2_with fail
    have hfin := HF.out
    have hBf := HBF.out
    clear HF HBF q0 z0
    generalize (w1.setCell ⟨w.heap.size, 0, none⟩ (.slice none 0 0)) = W at hfin hBf ⊢
    obtain ⟨p0, _⟩ := box1 hfin
    exact bodyPost_ret (v := .tuple #[.agg #[.slice none 0 0], .bool false]) (by simp [results, Try.results43, go_sem, p0]) rfl ⟨none, 0, 0, rfl, (fun ops h => by cases h), hBf⟩
  | true =>
    have hk := HG.out.1 rfl
    match l, hk with
    | [], hk => simp [kindsL] at hk
    | _ :: _ :: _, hk => simp [kindsL] at hk
    | [x], hk =>
      simp only [kindsL, List.map_cons, List.map_nil, List.cons.injEq, and_true] at hk
      obtain rfl : len = 1 := HL.out.symm
      have ho : o = rdOps x.kids := by rw [← HO.out, rdGraph, if_pos hk]
      have HO2 := Lib.hid ho
      clear ho
      obtain ⟨ib, io, rfl, hib, hcells⟩ := (Items.low HB1.out HI.out).at (by omega)
      obtain ⟨ux, ⟨a0, a1, a2, a3⟩, hix⟩ := hcells 0 x rfl
      simp only [Nat.zero_mul, Nat.add_zero] at a0 a1 a2 a3
      obtain ⟨Ax, cx, rfl, _⟩ := hix.form
      obtain ⟨n, hn⟩ : ∃ n, x.kids.length = n := ⟨_, rfl⟩
      rw [hn] at a3 hix
      have hfew := kids_few HS.out (List.mem_singleton.2 rfl : x ∈ [x])
      have hn1 : n ≤ 4096 := by omega
      obtain ⟨b, hb⟩ : ∃ b, w.heap.size = b := ⟨_, rfl⟩
      have hstart : RdG w (w1.alloc Z1) b w1.heap.size (x.kids.take 0) none 0 0 [] := by
        rw [← hb]
        exact ⟨HB1.out.alloc (by omega) _, (Below.heap_alloc w1 _ _ hs1).trans HBX.out, heap_alloc_new w1 _, hs1, GrowW.nil _ _, rfl⟩
      have HST := Lib.hid hstart
      have HN := Lib.hid hn
      have HIX := Lib.hid hix
      have HBB := Lib.hid hb
      have hibw : ib < w1.heap.size := by omega
      clear hcells hk HG HO HL HI hix hn hfew hstart hb
      go_wp2_with fail
      rw [HBB.out]
      obtain ⟨g, hgg⟩ : ∃ g, w1.heap.size = g := ⟨_, rfl⟩
      rw [hgg] at HST ⊢
      have HGG := Lib.hid hgg
      have HIX1 : Hid (Old w1.heap.size w1 (.slice Ax n cx) x.kids) := Lib.hid (HIX.out.mono (fun b hb => by omega))
      clear hgg a0 a1 a2 a3 HIX
      go_loopw [19] (fun i wr => ∃ k : Nat, i = .int .i64 k ∧ k ≤ n ∧ Hid (∃ A n' c ops, RdG w wr b g (x.kids.take k) A n' c ops ∧ Below g w1 wr)) (fun i _ => n - (intOf i).toNat)
      case atStart => exact ⟨0, rfl, Nat.zero_le _, Lib.hid ⟨_, _, _, _, HST.out, by rw [← HGG.out]; exact (Below.refl _ _).alloc (Nat.le_refl _) _⟩⟩
      case round =>
        obtain ⟨k, rfl, hk, hR⟩ := hrel
        obtain ⟨A, n', c, ops, hR, hBg⟩ := hR.out
        have hgw := lt_of_some hR.box
        have hfar := hR.far
        have HR := Lib.hid hR
        have HBG := Lib.hid hBg
        clear hR hBg
        by_cases hlt : k < n
        · obtain ⟨y, hy⟩ : ∃ y, x.kids[k]? = some y := ⟨_, List.getElem?_eq_getElem (by rw [HN.out]; exact hlt)⟩
          have hym := List.mem_of_getElem? hy
          have hIw : Old w1.heap.size wr (.slice Ax n cx) x.kids := Items.low (by rw [HGG.out]; exact HBG.out) HIX1.out
          obtain ⟨jb, jo, rfl, hjb, hcells⟩ := hIw.at (by omega)
          obtain ⟨uy, ⟨y0, y1, y2, y3⟩, hiy⟩ := hcells k y hy
          obtain ⟨Ay, cy, rfl, _⟩ := hiy.form
          have hOy : Old (wr.alloc (.cells #[.int .i64 y.kind, .int .i64 y.n, .string y.s, .slice Ay y.kids.length cy] 71)).heap.size (wr.alloc (.cells #[.int .i64 y.kind, .int .i64 y.n, .string y.s, .slice Ay y.kids.length cy] 71)) (.slice Ay y.kids.length cy) y.kids :=
            (Items.low ((Below.refl w1.heap.size wr).alloc (by rw [HGG.out]; omega) _) hiy).mono (fun b hb => by rw [HGG.out] at hb; simp; omega)
          have CR := Lib.hid (readOp_calls y Ay cy _ hOy (fun z hz => kids_small (l := x.kids) (kids_few HS.out (List.mem_singleton.2 rfl : x ∈ [x])).2 hym hz))
          obtain ⟨ly, hly⟩ : ∃ ly, y.kids.length = ly := ⟨_, rfl⟩
          unfold itemV at CR
          rw [hly] at y3 CR
          have hjw : jb < wr.heap.size := by have := HGG.out; omega
          have HY := Lib.hid hy
          have HYM := Lib.hid hym
          have HLT := Lib.hid hlt
          have hBa := (Below.refl g wr).alloc (by omega) (.cells #[.int .i64 y.kind, .int .i64 y.n, .string y.s, .slice Ay ly cy] 71)
          have HBA := Lib.hid hBa
          clear hcells hiy hy hym hIw hOy hly hBa
          go_wp2_with fail
          refine CR.out.mono ?_
          rintro e w2 ⟨oy, Ao, no, co, rfl, hoy, hB2⟩
          have hs2 : wr.heap.size + 1 ≤ w2.heap.size := by have := hB2.size; simpa using this
          obtain ⟨r, hr⟩ : ∃ r, rdOp y = r := ⟨_, rfl⟩
          rw [hr] at hoy ⊢
          have HRY := Lib.hid hr
          have HOY := Lib.hid hoy
          have hBw : Below g wr w2 := HBA.out.trans (hB2.mono (by simp; omega))
          have hwide : ∀ j, j < wr.heap.size → w2.heap[j]? = wr.heap[j]? := fun j hj => (hB2.block j (by simp; omega)).trans (Below.heap_alloc wr _ j hj)
          have HWD := Lib.hid hwide
          have HBW := Lib.hid hBw
          clear hr hoy hBw hB2 CR y0 y1 y2 y3 hwide
          have hg2 : g < w2.heap.size := by omega
          have hb2 : b < w2.heap.size := by omega
          obtain ⟨gc, gf⟩ := box1 ((HWD.out g (by omega)).trans HR.out.box)
          obtain ⟨bc, bf⟩ := box1 ((HWD.out b (by omega)).trans HR.out.res)
          cases r with
          | none =>
            obtain rfl : o = none := HO2.out.trans (rdOps_bad HRY.out HYM.out)
            have hres : w2.heap[b]? = some Z1 := (HWD.out b (by omega)).trans HR.out.res
            have hfin : ((w2.setCell ⟨b, 0, none⟩ (.slice none 0 0)).alloc (.cells #[.int .i64 oy.kind, .slice Ao no co, .int .i64 oy.arg, .int .u32 (oy.num : Nat), .int .i64 oy.rounds, .int .i64 oy.test, .int .u32 (oy.lim : Nat)] 47)).heap[b]? = some Z1 := (Below.heap_alloc _ _ b (by simpa [World.setCell] using hb2)).trans (stored1 hres (.slice none 0 0))
            have hBf : Below b w ((w2.setCell ⟨b, 0, none⟩ (.slice none 0 0)).alloc (.cells #[.int .i64 oy.kind, .slice Ao no co, .int .i64 oy.arg, .int .u32 (oy.num : Nat), .int .i64 oy.rounds, .int .i64 oy.test, .int .u32 (oy.lim : Nat)] 47)) := ((HR.out.low.trans ⟨HBW.out.os, HBW.out.tape, HBW.out.output, HBW.out.size, fun j hj => HWD.out j (by omega)⟩).setCell (p := ⟨b, 0, none⟩) (Nat.le_refl _) _).alloc (by simp [World.setCell]; omega) _
            have HF := Lib.hid hfin
            have HBF := Lib.hid hBf
            clear hres hfin hBf gc gf
            go_wp2_with fail
            have hfin := HF.out
            have hBf := HBF.out
            clear HF HBF bc bf
            generalize ((w2.setCell ⟨b, 0, none⟩ (.slice none 0 0)).alloc (.cells #[.int .i64 oy.kind, .slice Ao no co, .int .i64 oy.arg, .int .u32 (oy.num : Nat), .int .i64 oy.rounds, .int .i64 oy.test, .int .u32 (oy.lim : Nat)] 47)) = W at hfin hBf ⊢
            obtain ⟨p0, _⟩ := box1 hfin
            exact bodyPost_ret (v := .tuple #[.agg #[.slice none 0 0], .bool false]) (by simp [results, Try.results43, go_sem, p0]) rfl ⟨none, 0, 0, rfl, (fun ops h => by cases h), by rw [HBB.out]; exact hBf⟩
          | some o' =>
            obtain ⟨rfl, hint⟩ := HOY.out o' rfl
            have hG2 : GrowW (g + 1) w2 (.slice A n' c) ops := HR.out.grow.keep (fun j _ hj => HWD.out j hj) (by omega)
            have hG3 := hG2.below ((Below.refl w2.heap.size w2).alloc (Nat.le_refl _) (.cells #[.int .i64 oy.kind, .slice Ao no co, .int .i64 oy.arg, .int .u32 (oy.num : Nat), .int .i64 oy.rounds, .int .i64 oy.test, .int .u32 (oy.lim : Nat)] 47))
            have hown := fun (j : Nat) (hj : (Value.slice A n' c).ownBlock = some j) => HR.out.grow.own hj
            have hint3 : IntsW (fun j => g + 1 ≤ j ∧ j < (w2.alloc (.cells #[.int .i64 oy.kind, .slice Ao no co, .int .i64 oy.arg, .int .u32 (oy.num : Nat), .int .i64 oy.rounds, .int .i64 oy.test, .int .u32 (oy.lim : Nat)] 47)).heap.size ∧ (Value.slice A n' c).ownBlock ≠ some j) (w2.alloc (.cells #[.int .i64 oy.kind, .slice Ao no co, .int .i64 oy.arg, .int .u32 (oy.num : Nat), .int .i64 oy.rounds, .int .i64 oy.test, .int .u32 (oy.lim : Nat)] 47)) (.slice Ao no co) oy.ins :=
              hint.keep (fun j hj => Below.heap_alloc w2 _ j hj.2) (fun j hj => ⟨by have := hj.1; simp at this; omega, by have := hj.2; simp; omega, fun e => by have h1 := hown j e; have := hj.1; simp at this; omega⟩)
            have hlen : ops.length ≤ 4096 := by rw [rdOps_length HR.out.read, List.length_take]; omega
            obtain ⟨v', W', hrun, hG4, hgr, hB4⟩ := hG3.append (by simp; omega) oy Ao no co hint3 25 (by omega)
            obtain ⟨A', c', hv', _⟩ := hG4.form
            obtain ⟨m', hm'⟩ : ∃ m', (ops ++ [oy]).length = m' := ⟨_, rfl⟩
            rw [hm'] at hv'
            subst hv'
            have hsW : w2.heap.size + 1 ≤ W'.heap.size := by have := hB4.size; simpa using this
            have hkW : ∀ j, j ≤ g → W'.heap[j]? = wr.heap[j]? := fun j hj => (hB4.block j (by omega)).trans ((Below.heap_alloc w2 _ j (by omega)).trans (HWD.out j (by omega)))
            have hboxW : W'.heap[g]? = _ := (hkW g (Nat.le_refl _)).trans HR.out.box
            obtain ⟨gc', gf'⟩ := box1 hboxW
            have hnext : RdG w (W'.setCell ⟨g, 0, none⟩ (.slice A' m' c')) b g (x.kids.take (k + 1)) A' m' c' (ops ++ [oy]) := by
              refine ⟨?_, ?_, stored1 hboxW _, hfar, ?_, ?_⟩
              · exact (HR.out.low.trans ⟨hB4.os.trans HBW.out.os, hB4.tape.trans HBW.out.tape, hB4.output.trans HBW.out.output, by omega, fun j hj => hkW j (by omega)⟩).setCell (p := ⟨g, 0, none⟩) (by show b ≤ g; omega) _
              · exact (Below.heap_setCell _ _ _ _ (by show b ≠ g; omega)).trans ((hkW b (by omega)).trans HR.out.res)
              · exact hG4.keep (fun j hj _ => Below.heap_setCell _ _ _ _ (by show j ≠ g; omega)) (by simp [World.setCell])
              · rw [take_snoc HY.out]; exact rdOps_snoc HRY.out HR.out.read
            have hbgn : Below g w1 (W'.setCell ⟨g, 0, none⟩ (.slice A' m' c')) := ((HBG.out.trans HBW.out).trans (((Below.refl g w2).alloc (by omega) (.cells #[.int .i64 oy.kind, .slice Ao no co, .int .i64 oy.arg, .int .u32 (oy.num : Nat), .int .i64 oy.rounds, .int .i64 oy.test, .int .u32 (oy.lim : Nat)] 47)).trans (hB4.mono (by omega)))).setCell (p := ⟨g, 0, none⟩) (Nat.le_refl _) _
            have HNX := Lib.hid hnext
            have HBN := Lib.hid hbgn
            rw [World.size_alloc] at hrun
            have HRUN := Lib.hid hrun
            clear hG2 hG3 hint3 hrun hG4 hgr hB4 hkW hboxW hnext hbgn hint hown hm' bc bf
            go_wp2_with (at_builtin; refine wpList_append_ran rfl _ _ _ rfl rfl rfl HRUN.out ?_)
            go_roundw
            case rel => exact ⟨k + 1, by go_num, by have := HLT.out; omega, Lib.hid ⟨_, _, _, _, HNX.out, HBN.out⟩⟩
            case measure => have := HLT.out; simp [intOf]; omega
        · obtain rfl : k = n := by omega
          have hR := HR.out
          rw [List.take_of_length_le (by rw [HN.out]; exact Nat.le_refl _)] at hR
          obtain rfl : o = some ops := HO2.out.trans hR.read
          obtain ⟨gc, gf⟩ := box1 hR.box
          obtain ⟨bc, bf⟩ := box1 hR.res
          have hfin := stored1 hR.res (.slice A n' c)
          have hBf := hR.low.setCell (p := ⟨b, 0, none⟩) (Nat.le_refl _) (.slice A n' c)
          have hops : OpsW (fun j => b ≤ j ∧ j < (wr.setCell ⟨b, 0, none⟩ (.slice A n' c)).heap.size) (wr.setCell ⟨b, 0, none⟩ (.slice A n' c)) (.slice A n' c) ops :=
            hR.grow.ops.keep (fun j hj => Below.heap_setCell _ _ _ _ (by show j ≠ b; omega)) (fun j hj => ⟨by omega, by have := hj.2; simpa [World.setCell] using this⟩)
          have HF := Lib.hid hfin
          have HBF := Lib.hid hBf
          have HOPS := Lib.hid hops
          clear hfin hBf hops hR HR
          go_wp2_with fail
          have hfin := HF.out
          have hBf := HBF.out
          have hops := HOPS.out
          clear HF HBF HOPS gc gf bc bf
          generalize (wr.setCell ⟨b, 0, none⟩ (.slice A n' c)) = W at hfin hBf hops ⊢
          obtain ⟨p0, _⟩ := box1 hfin
          exact bodyPost_ret (v := .tuple #[.agg #[.slice A n' c], .bool true]) (by simp [results, Try.results43, go_sem, p0]) rfl ⟨A, n', c, rfl, (fun ops' h => by obtain rfl := Option.some.inj h; rw [HBB.out]; exact hops), by rw [HBB.out]; exact hBf⟩

end Go.Proofs.Ytffehnojcajhiaa.Wire.Entry.U

namespace Go.Proofs.Ytffehnojcajhiaa.Wire.Entry.U
open Go Go.RowKit Go.Proofs.Ytffehnojcajhiaa.Law

abbrev Z8 : Obj := .cells #[.int .i64 0, .int .i64 0, .int .i64 0, .int .i64 0, .string ⟨#[]⟩, .int .u32 0, .slice none 0 0, .int .i64 0] 29
theorem box8 {W : World} {b : Nat} {a0 a1 a2 a3 a4 a5 a6 a7 : Value} {T : TypeId} (h : W.heap[b]? = some (.cells #[a0, a1, a2, a3, a4, a5, a6, a7] T)) :
    (W.cell? ⟨b, 0, none⟩ = some a0 ∧ W.cell? ⟨b, 1, none⟩ = some a1 ∧ W.cell? ⟨b, 2, none⟩ = some a2 ∧ W.cell? ⟨b, 3, none⟩ = some a3 ∧ W.cell? ⟨b, 4, none⟩ = some a4 ∧ W.cell? ⟨b, 5, none⟩ = some a5 ∧ W.cell? ⟨b, 6, none⟩ = some a6 ∧ W.cell? ⟨b, 7, none⟩ = some a7) ∧
    W.frozen? ⟨b, 0, none⟩ = false ∧ W.frozen? ⟨b, 1, none⟩ = false ∧ W.frozen? ⟨b, 2, none⟩ = false ∧ W.frozen? ⟨b, 3, none⟩ = false ∧ W.frozen? ⟨b, 4, none⟩ = false ∧ W.frozen? ⟨b, 5, none⟩ = false ∧ W.frozen? ⟨b, 6, none⟩ = false ∧ W.frozen? ⟨b, 7, none⟩ = false := by
  refine ⟨⟨?_, ?_, ?_, ?_, ?_, ?_, ?_, ?_⟩, ?_, ?_, ?_, ?_, ?_, ?_, ?_, ?_⟩ <;> simp [World.cell?, World.frozen?, h]
theorem stored8 {W : World} {b : Nat} {a0 a1 a2 a3 a4 a5 a6 a7 : Value} {T : TypeId} (h : W.heap[b]? = some (.cells #[a0, a1, a2, a3, a4, a5, a6, a7] T)) (k0 k1 k2 k3 k4 k5 k6 k7 : Value) :
    ((((((((W.setCell ⟨b, 0, none⟩ k0).setCell ⟨b, 1, none⟩ k1).setCell ⟨b, 2, none⟩ k2).setCell ⟨b, 3, none⟩ k3).setCell ⟨b, 4, none⟩ k4).setCell ⟨b, 5, none⟩ k5).setCell ⟨b, 6, none⟩ k6).setCell ⟨b, 7, none⟩ k7).heap[b]? = some (.cells #[k0, k1, k2, k3, k4, k5, k6, k7] T) := by
  simp [World.setCell, Array.getElem?_modify, h]
theorem set8_grown {W : World} {b : Nat} (k0 k1 k2 k3 k4 k5 k6 k7 : Value) :
    W.grownBy ((((((((W.setCell ⟨b, 0, none⟩ k0).setCell ⟨b, 1, none⟩ k1).setCell ⟨b, 2, none⟩ k2).setCell ⟨b, 3, none⟩ k3).setCell ⟨b, 4, none⟩ k4).setCell ⟨b, 5, none⟩ k5).setCell ⟨b, 6, none⟩ k6).setCell ⟨b, 7, none⟩ k7) (some b) :=
  (set7_grown _ _ _ _ _ _ _).trans (grown_set _ _ _ _)

/-- An entry that was read, and whether it was one. -/
def RetEnt (w : World) (r : Option Ent) (e : Ending) (W : World) : Prop :=
  ∃ (x : Ent) (A : Option Addr) (n c : Nat), e = .returned (.tuple #[entV x (.slice A n c), .bool r.isSome]) ∧ (∀ y, r = some y → x = y ∧ OpsW (fun k => w.heap.size ≤ k ∧ k < W.heap.size) W (.slice A n c) x.ops) ∧ Below w.heap.size w W

theorem read_nil (v : Value) (w : World) (hI : Old w.heap.size w v []) : Calls Try.prog 25 #[v] w (RetEnt w (rdE [])) := by
  obtain ⟨A, cap, rfl, _⟩ := hI.form
  clear hI
  simp only [List.length_nil]
  have hbox : (w.alloc Z8).heap[w.heap.size]? = some Z8 := heap_alloc_new w _
  have hB : Below w.heap.size w (w.alloc Z8) := (Below.refl _ _).alloc (Nat.le_refl _) _
  have HBX := Lib.hid hbox
  have HB := Lib.hid hB
  clear hbox hB
  go_enter Try.func25, Try.ntmps25
  go_wp2_with fail
  have hbox := HBX.out
  have hB := HB.out
  clear HBX HB
  generalize (w.alloc Z8) = W at hbox hB ⊢
  obtain ⟨⟨p0, p1, p2, p3, p4, p5, p6, p7⟩, _⟩ := box8 hbox
  exact bodyPost_ret (v := .tuple #[.agg #[.int .i64 0, .int .i64 0, .int .i64 0, .int .i64 0, .string ⟨#[]⟩, .int .u32 0, .slice none 0 0, .int .i64 0], .bool true]) (by simp [results, Try.results25, go_sem, p0, p1, p2, p3, p4, p5, p6, p7]) rfl
    ⟨zeroE, none, 0, 0, rfl, (fun y h => by obtain rfl := Option.some.inj h; exact ⟨rfl, OpsW.nil _ _⟩), hB⟩

theorem Items.tail {S : Nat → Prop} {W : World} {b off n cap : Nat} {x : Item} {f : List Item} (h : Items S W (.slice (some ⟨b, off, none⟩) (n + 1) cap) (x :: f)) : Items S W (.slice (some ⟨b, off + 4, none⟩) n (cap - 1)) f := by
  have hl := h.length
  obtain ⟨b', off', e, hS, hc⟩ := h.at (by omega)
  simp only [Option.some.injEq, Addr.mk.injEq, and_true] at e
  obtain ⟨rfl, rfl⟩ := e
  obtain ⟨U, hU⟩ := Classical.axiomOfChoice (r := fun (j : Nat) (u : Value) => ∀ y, f[j]? = some y → Cells4 W b (off + (j + 1) * 4) y u ∧ Items S W u y.kids) (fun j => by
    match hq : f[j]? with
    | none => exact ⟨.slice none 0 0, fun y hy => by cases hy⟩
    | some y =>
      obtain ⟨u, h1, h2⟩ := hc (j + 1) y (by simpa using hq)
      exact ⟨u, fun y' hy' => by obtain rfl := Option.some.inj hy'; exact ⟨h1, h2⟩⟩)
  refine .row b (off + 4) n (cap - 1) f U (by have := hl.1; simpa using this) (by omega) (fun _ => hS) (fun j y hy => ?_) (fun j y hy => (hU j y hy).2)
  have := (hU j y hy).1
  rwa [show off + (j + 1) * 4 = off + 4 + j * 4 by omega] at this

end Go.Proofs.Ytffehnojcajhiaa.Wire.Entry.U

namespace Go.Proofs.Ytffehnojcajhiaa.Wire.Entry.U
open Go Go.RowKit Go.Proofs.Ytffehnojcajhiaa.Law

set_option maxRecDepth 100000 in
set_option maxHeartbeats 8000000 in
theorem read_cons (x : Item) (f : List Item) (hs : nodesL (x :: f) ≤ 4096) (v : Value) (w : World) (hI : Old w.heap.size w v (x :: f)) : Calls Try.prog 25 #[v] w (RetEnt w (rdE (x :: f))) := by
  obtain ⟨A, cap, rfl, hcap0⟩ := hI.form
  have hsf : nodesL f ≤ 4096 := by rw [nodesL] at hs; omega
  obtain ⟨ro, hro⟩ : ∃ r, rdE (x :: f) = r := ⟨_, rfl⟩
  rw [hro]
  obtain ⟨n, hn⟩ : ∃ n, f.length = n := ⟨_, rfl⟩
  rw [List.length_cons, hn] at hI hcap0 ⊢
  have hn2 : n ≤ 4096 := by have := length_le_nodes f; omega
  obtain ⟨ib, io, rfl, hib, hcells⟩ := hI.at (by omega)
  obtain ⟨ux, ⟨a0, a1, a2, a3⟩, hix⟩ := hcells 0 x rfl
  simp only [Nat.zero_mul, Nat.add_zero] at a0 a1 a2 a3
  obtain ⟨Ax, cx, rfl, _⟩ := hix.form
  obtain ⟨lx, hlx⟩ : ∃ l, x.kids.length = l := ⟨_, rfl⟩
  rw [hlx] at a3
  have htl := Items.tail hI
  obtain ⟨b, hb⟩ : ∃ b, w.heap.size = b := ⟨_, rfl⟩
  have hbe : ((w.alloc Z8).alloc (.cells #[.int .i64 x.n, .int .i64 0, .int .i64 0, .int .i64 0, .string ⟨#[]⟩, .int .u32 0, .slice none 0 0, .int .i64 0] 29)).heap[b + 1]? = some (.cells #[.int .i64 x.n, .int .i64 0, .int .i64 0, .int .i64 0, .string ⟨#[]⟩, .int .u32 0, .slice none 0 0, .int .i64 0] 29) := by
    have := heap_alloc_new (w.alloc Z8) (.cells #[.int .i64 x.n, .int .i64 0, .int .i64 0, .int .i64 0, .string ⟨#[]⟩, .int .u32 0, .slice none 0 0, .int .i64 0] 29)
    rwa [World.size_alloc, hb] at this
  have hbr : ((w.alloc Z8).alloc (.cells #[.int .i64 x.n, .int .i64 0, .int .i64 0, .int .i64 0, .string ⟨#[]⟩, .int .u32 0, .slice none 0 0, .int .i64 0] 29)).heap[b]? = some Z8 := by
    rw [← hb]
    exact ((Below.refl _ _).alloc (Nat.le_refl _) _ |>.block w.heap.size (by simp)).trans (heap_alloc_new w _)
  have hB : Below b w ((w.alloc Z8).alloc (.cells #[.int .i64 x.n, .int .i64 0, .int .i64 0, .int .i64 0, .string ⟨#[]⟩, .int .u32 0, .slice none 0 0, .int .i64 0] 29)) := by
    rw [← hb]
    exact ((Below.refl _ _).alloc (Nat.le_refl _) _).alloc (by simp) _
  have hsz : ((w.alloc Z8).alloc (.cells #[.int .i64 x.n, .int .i64 0, .int .i64 0, .int .i64 0, .string ⟨#[]⟩, .int .u32 0, .slice none 0 0, .int .i64 0] 29)).heap.size = b + 2 := by simp [hb]
  have HBE := Lib.hid hbe
  have HBR := Lib.hid hbr
  have HB := Lib.hid hB
  have HSZ := Lib.hid hsz
  have HTL := Lib.hid htl
  have HRO := Lib.hid hro
  have HBB := Lib.hid hb
  have HN := Lib.hid hn
  have HSF := Lib.hid hsf
  have hib2 : ib < b := by omega
  have hnb : ((n : Int) + 1 == 0) = false := by rw [beq_eq_false_iff_ne]; omega
  have hcI : 1 ≤ (cap : Int) := by omega
  clear hbe hbr hB hsz htl hro hcells hix hI hlx hs hsf hn
  go_enter Try.func25, Try.ntmps25
  go_upto_region 4 with fail
  have hbe := HBE.out
  have hbr := HBR.out
  have hB := HB.out
  have hsz := HSZ.out
  clear HBE HBR HB HSZ
  generalize (w.alloc Z8).alloc (.cells #[.int .i64 x.n, .int .i64 0, .int .i64 0, .int .i64 0, .string ⟨#[]⟩, .int .u32 0, .slice none 0 0, .int .i64 0] 29) = w1 at hbe hbr hB hsz ⊢
  have HBE := Lib.hid hbe
  have HBR := Lib.hid hbr
  have HB := Lib.hid hB
  have HSZ := Lib.hid hsz
  obtain ⟨⟨c0, _, _, _, _, _, _, _⟩, _⟩ := box8 hbe
  clear hbe hbr hB hsz a0 a1 a2 a3 hib
  by_cases hcap : cap = 1
  · obtain rfl : n = 0 := by omega
    subst hcap
    have HF : Hid (Old w.heap.size w (.slice (some ⟨ib, io, none⟩) 0 0) f) := Lib.hid (.nil (some ⟨ib, io, none⟩) 0 f (fun h => by cases h) (List.eq_nil_of_length_eq_zero HN.out))
    go_upto_region 5 with fail
    by_cases k1 : x.n = 1
    · have hk1 : ((x.n : Int) == 1) = true := beq_iff_eq.2 k1
      have hro : ro = (rdRec f).map fun r => ⟨1, r, [], 0⟩ := by rw [← HRO.out, rdE, if_pos k1]
      have HRR := Lib.hid hro
      have CR := Lib.hid (readRecord_calls f (by rw [HN.out]; omega) _ w1 (Items.mono (fun k hk => by have := HSZ.out; have := HBB.out; omega) (Items.low (by rw [HBB.out]; exact HB.out) HF.out)))
      have HK := Lib.hid k1
      clear k1 hro
      go_wp2_with fail
      refine CR.out.mono ?_
      rintro e w2 ⟨r, rfl, hr, hB2⟩
      have HRL := Lib.hid hr
      clear hr
      have hs2 : b + 2 ≤ w2.heap.size := by have := hB2.size; have := HSZ.out; omega
      have hbe2 := (hB2.block (b + 1) (by have := HSZ.out; omega)).trans HBE.out
      have hbr2 := (hB2.block b (by have := HSZ.out; omega)).trans HBR.out
      have hBw : Below b w w2 := HB.out.trans (hB2.mono (by have := HSZ.out; omega))
      obtain ⟨⟨m0, m1, m2, m3, m4, m5, m6, m7⟩, z0, z1, z2, z3, z4, z5, z6, z7⟩ := box8 hbe2
      have HBE2 := Lib.hid hbe2
      have HBR2 := Lib.hid hbr2
      have HBW := Lib.hid hBw
      clear hB2 hbe2 hbr2 hBw CR c0
      go_upto_region 14 with fail
      have hg5 : w2.grownBy (((((w2.setCell ⟨b + 1, 1, none⟩ (.int .i64 r.p)).setCell ⟨b + 1, 2, none⟩ (.int .i64 r.q)).setCell ⟨b + 1, 3, none⟩ (.int .i64 r.a)).setCell ⟨b + 1, 4, none⟩ (.string r.key)).setCell ⟨b + 1, 5, none⟩ (.int .u32 (r.val : Nat))) (some (b + 1)) := ((((grown_set _ _ _ _).trans (grown_set _ _ _ _)).trans (grown_set _ _ _ _)).trans (grown_set _ _ _ _)).trans (grown_set _ _ _ _)
      have h5 : (((((w2.setCell ⟨b + 1, 1, none⟩ (.int .i64 r.p)).setCell ⟨b + 1, 2, none⟩ (.int .i64 r.q)).setCell ⟨b + 1, 3, none⟩ (.int .i64 r.a)).setCell ⟨b + 1, 4, none⟩ (.string r.key)).setCell ⟨b + 1, 5, none⟩ (.int .u32 (r.val : Nat))).heap[b + 1]? = some (.cells #[.int .i64 x.n, .int .i64 r.p, .int .i64 r.q, .int .i64 r.a, .string r.key, .int .u32 (r.val : Nat), .slice none 0 0, .int .i64 0] 29) := by simp [World.setCell, Array.getElem?_modify, HBE2.out]
      have h5r : (((((w2.setCell ⟨b + 1, 1, none⟩ (.int .i64 r.p)).setCell ⟨b + 1, 2, none⟩ (.int .i64 r.q)).setCell ⟨b + 1, 3, none⟩ (.int .i64 r.a)).setCell ⟨b + 1, 4, none⟩ (.string r.key)).setCell ⟨b + 1, 5, none⟩ (.int .u32 (r.val : Nat))).heap[b]? = some Z8 := (hg5.block b (by omega) (by simp only [ne_eq, Option.some.injEq]; omega)).trans HBR2.out
      have hB5 : Below b w (((((w2.setCell ⟨b + 1, 1, none⟩ (.int .i64 r.p)).setCell ⟨b + 1, 2, none⟩ (.int .i64 r.q)).setCell ⟨b + 1, 3, none⟩ (.int .i64 r.a)).setCell ⟨b + 1, 4, none⟩ (.string r.key)).setCell ⟨b + 1, 5, none⟩ (.int .u32 (r.val : Nat))) := HBW.out.grown hg5 (by omega) (fun k hk => by simp only [Option.some.injEq] at hk; omega)
      clear hg5
      generalize (((((w2.setCell ⟨b + 1, 1, none⟩ (.int .i64 r.p)).setCell ⟨b + 1, 2, none⟩ (.int .i64 r.q)).setCell ⟨b + 1, 3, none⟩ (.int .i64 r.a)).setCell ⟨b + 1, 4, none⟩ (.string r.key)).setCell ⟨b + 1, 5, none⟩ (.int .u32 (r.val : Nat))) = w5 at h5 h5r hB5 ⊢
      obtain ⟨⟨d0, d1, d2, d3, d4, d5, d6, d7⟩, _⟩ := box8 h5
      obtain ⟨⟨e0, e1, e2, e3, e4, e5, e6, e7⟩, g0, g1, g2, g3, g4, g5, g6, g7⟩ := box8 h5r
      have hfin := stored8 h5r (.int .i64 x.n) (.int .i64 r.p) (.int .i64 r.q) (.int .i64 r.a) (.string r.key) (.int .u32 (r.val : Nat)) (.slice none 0 0) (.int .i64 0)
      have hgr : w5.grownBy _ (some b) := set8_grown (W := w5) (b := b) (.int .i64 x.n) (.int .i64 r.p) (.int .i64 r.q) (.int .i64 r.a) (.string r.key) (.int .u32 (r.val : Nat)) (.slice none 0 0) (.int .i64 0)
      have HFIN := Lib.hid hfin
      have HGR := Lib.hid hgr
      have HB5 := Lib.hid hB5
      clear hfin hgr hB5 h5 h5r
      go_wp2_with fail
      have hfin := HFIN.out
      have hgr := HGR.out
      clear HFIN HGR d0 d1 d2 d3 d4 d5 d6 d7 e0 e1 e2 e3 e4 e5 e6 e7 g0 g1 g2 g3 g4 g5 g6 g7
      generalize ((((((((w5.setCell ⟨b, 0, none⟩ (.int .i64 x.n)).setCell ⟨b, 1, none⟩ (.int .i64 r.p)).setCell ⟨b, 2, none⟩ (.int .i64 r.q)).setCell ⟨b, 3, none⟩ (.int .i64 r.a)).setCell ⟨b, 4, none⟩ (.string r.key)).setCell ⟨b, 5, none⟩ (.int .u32 (r.val : Nat))).setCell ⟨b, 6, none⟩ (.slice none 0 0)).setCell ⟨b, 7, none⟩ (.int .i64 0)) = W at hfin hgr ⊢
      obtain ⟨⟨p0, p1, p2, p3, p4, p5, p6, p7⟩, _⟩ := box8 hfin
      have hWB : Below w.heap.size w W := by rw [HBB.out]; exact HB5.out.grown hgr (by have := HBB.out; have := HB5.out.size; omega) (fun k hk => by simp only [Option.some.injEq] at hk; omega)
      refine bodyPost_ret (v := .tuple #[.agg #[.int .i64 x.n, .int .i64 r.p, .int .i64 r.q, .int .i64 r.a, .string r.key, .int .u32 (r.val : Nat), .slice none 0 0, .int .i64 0], .bool (rdRec f).isSome]) (by simp [results, Try.results25, go_sem, p0, p1, p2, p3, p4, p5, p6, p7]) rfl ⟨⟨x.n, r, [], 0⟩, none, 0, 0, by rw [HRR.out]; cases rdRec f <;> rfl, ?_, hWB⟩
      intro y hy
      rw [HRR.out] at hy
      match hq : rdRec f with
      | none => rw [hq] at hy; cases hy
      | some r' =>
        rw [hq] at hy
        obtain rfl := Option.some.inj hy
        obtain rfl := HRL.out r' hq
        exact ⟨by rw [HK.out], OpsW.nil _ _⟩
    · have hk1 : ((x.n : Int) == 1) = false := beq_eq_false_iff_ne.2 k1
      by_cases k3 : x.n = 3
      · have hk3 : ((x.n : Int) == 3) = true := beq_iff_eq.2 k3
        have hro : ro = (rdGraph f).map fun l => ⟨3, zeroR, l, 0⟩ := by rw [← HRO.out, rdE, if_neg k1, if_pos k3]
        have HRR := Lib.hid hro
        have CR := Lib.hid (readGraph_calls f HSF.out _ w1 (Items.mono (fun k hk => by have := HSZ.out; have := HBB.out; omega) (Items.low (by rw [HBB.out]; exact HB.out) HF.out)))
        have HK := Lib.hid k3
        clear k1 k3 hro
        go_wp2_with fail
        refine CR.out.mono ?_
        rintro e w2 ⟨A1, n1, c1, rfl, hr, hB2⟩
        have HRL := Lib.hid hr
        clear hr
        have hs2 : b + 2 ≤ w2.heap.size := by have := hB2.size; have := HSZ.out; omega
        have hbe2 := (hB2.block (b + 1) (by have := HSZ.out; omega)).trans HBE.out
        have hbr2 := (hB2.block b (by have := HSZ.out; omega)).trans HBR.out
        have hBw : Below b w w2 := HB.out.trans (hB2.mono (by have := HSZ.out; omega))
        obtain ⟨⟨m0, m1, m2, m3, m4, m5, m6, m7⟩, z0, z1, z2, z3, z4, z5, z6, z7⟩ := box8 hbe2
        have HBE2 := Lib.hid hbe2
        have HBR2 := Lib.hid hbr2
        have HBW := Lib.hid hBw
        clear hB2 hbe2 hbr2 hBw CR c0
        go_upto_region 14 with fail
        have hg5 : w2.grownBy (w2.setCell ⟨b + 1, 6, none⟩ (.slice A1 n1 c1)) (some (b + 1)) := grown_set _ _ _ _
        have h5 : (w2.setCell ⟨b + 1, 6, none⟩ (.slice A1 n1 c1)).heap[b + 1]? = some (.cells #[.int .i64 x.n, .int .i64 0, .int .i64 0, .int .i64 0, .string ⟨#[]⟩, .int .u32 0, .slice A1 n1 c1, .int .i64 0] 29) := by simp [World.setCell, Array.getElem?_modify, HBE2.out]
        have h5r : (w2.setCell ⟨b + 1, 6, none⟩ (.slice A1 n1 c1)).heap[b]? = some Z8 := (hg5.block b (by omega) (by simp only [ne_eq, Option.some.injEq]; omega)).trans HBR2.out
        have hB5 : Below b w (w2.setCell ⟨b + 1, 6, none⟩ (.slice A1 n1 c1)) := HBW.out.grown hg5 (by omega) (fun k hk => by simp only [Option.some.injEq] at hk; omega)
        have h5o : ∀ ops, rdGraph f = some ops → OpsW (fun k => b + 2 ≤ k ∧ k < (w2.setCell ⟨b + 1, 6, none⟩ (.slice A1 n1 c1)).heap.size) (w2.setCell ⟨b + 1, 6, none⟩ (.slice A1 n1 c1)) (.slice A1 n1 c1) ops := fun ops h => (HRL.out ops h).keep (fun k hk => Below.heap_setCell _ _ _ _ (by show k ≠ b + 1; have := hk.1; have := HSZ.out; omega)) (fun k hk => ⟨by have := hk.1; have := HSZ.out; omega, by have := hk.2; simpa [World.setCell] using this⟩)
        clear hg5
        generalize (w2.setCell ⟨b + 1, 6, none⟩ (.slice A1 n1 c1)) = w5 at h5 h5r hB5 h5o ⊢
        obtain ⟨⟨d0, d1, d2, d3, d4, d5, d6, d7⟩, _⟩ := box8 h5
        obtain ⟨⟨e0, e1, e2, e3, e4, e5, e6, e7⟩, g0, g1, g2, g3, g4, g5, g6, g7⟩ := box8 h5r
        have hfin := stored8 h5r (.int .i64 x.n) (.int .i64 0) (.int .i64 0) (.int .i64 0) (.string ⟨#[]⟩) (.int .u32 0) (.slice A1 n1 c1) (.int .i64 0)
        have hgr : w5.grownBy _ (some b) := set8_grown (W := w5) (b := b) (.int .i64 x.n) (.int .i64 0) (.int .i64 0) (.int .i64 0) (.string ⟨#[]⟩) (.int .u32 0) (.slice A1 n1 c1) (.int .i64 0)
        have HFIN := Lib.hid hfin
        have HGR := Lib.hid hgr
        have HB5 := Lib.hid hB5
        have HOPS := Lib.hid h5o
        clear h5o
        clear hfin hgr hB5 h5 h5r
        go_wp2_with fail
        have hfin := HFIN.out
        have hgr := HGR.out
        clear HFIN HGR d0 d1 d2 d3 d4 d5 d6 d7 e0 e1 e2 e3 e4 e5 e6 e7 g0 g1 g2 g3 g4 g5 g6 g7
        generalize ((((((((w5.setCell ⟨b, 0, none⟩ (.int .i64 x.n)).setCell ⟨b, 1, none⟩ (.int .i64 0)).setCell ⟨b, 2, none⟩ (.int .i64 0)).setCell ⟨b, 3, none⟩ (.int .i64 0)).setCell ⟨b, 4, none⟩ (.string ⟨#[]⟩)).setCell ⟨b, 5, none⟩ (.int .u32 0)).setCell ⟨b, 6, none⟩ (.slice A1 n1 c1)).setCell ⟨b, 7, none⟩ (.int .i64 0)) = W at hfin hgr ⊢
        obtain ⟨⟨p0, p1, p2, p3, p4, p5, p6, p7⟩, _⟩ := box8 hfin
        have hWB : Below w.heap.size w W := by rw [HBB.out]; exact HB5.out.grown hgr (by have := HBB.out; have := HB5.out.size; omega) (fun k hk => by simp only [Option.some.injEq] at hk; omega)
        refine bodyPost_ret (v := .tuple #[.agg #[.int .i64 x.n, .int .i64 0, .int .i64 0, .int .i64 0, .string ⟨#[]⟩, .int .u32 0, .slice A1 n1 c1, .int .i64 0], .bool (rdGraph f).isSome]) (by simp [results, Try.results25, go_sem, p0, p1, p2, p3, p4, p5, p6, p7]) rfl ⟨⟨x.n, zeroR, (rdGraph f).getD [], 0⟩, A1, n1, c1, by rw [HRR.out]; cases rdGraph f <;> rfl, ?_, hWB⟩
        intro y hy
        rw [HRR.out] at hy
        match hq : rdGraph f with
        | none => rw [hq] at hy; cases hy
        | some ops =>
          rw [hq] at hy
          obtain rfl := Option.some.inj hy
          exact ⟨by rw [HK.out]; rfl, (HOPS.out ops hq).keep (fun k hk => hgr.block k hk.2 (by simp only [ne_eq, Option.some.injEq]; have := hk.1; omega)) (fun k hk => ⟨by have := hk.1; have := HBB.out; omega, Nat.lt_of_lt_of_le hk.2 hgr.size⟩)⟩
      · have hk3 : ((x.n : Int) == 3) = false := beq_eq_false_iff_ne.2 k3
        by_cases k2 : x.n = 2 ∨ x.n = 4 ∨ x.n = 5
        · have hro : ro = (rdNum f).map fun n => ⟨x.n, zeroR, [], n⟩ := by rw [← HRO.out, rdE, if_neg k1, if_neg k3, if_pos k2]
          have HRR := Lib.hid hro
          obtain ⟨o, ho⟩ : ∃ o, rdNum f = o := ⟨_, rfl⟩
          obtain ⟨num, hnum⟩ : ∃ num, o.getD 0 = num := ⟨_, rfl⟩
          obtain ⟨rb, hrb⟩ : ∃ rb, o.isSome = rb := ⟨_, rfl⟩
          have cr := readNumber_calls f (by rw [HN.out]; omega) _ w1 (Items.mono (fun k hk => by have := HSZ.out; have := HBB.out; omega) (Items.low (by rw [HBB.out]; exact HB.out) HF.out))
          rw [ho] at cr
          unfold RetNum at cr
          rw [hnum, hrb] at cr
          have CR := Lib.hid cr
          have HOO := Lib.hid ho
          have HNUM := Lib.hid hnum
          have HRB := Lib.hid hrb
          clear k1 k3 hro ho hnum hrb cr
          rcases k2 with k2 | k2 | k2
          · have hk2 : ((x.n : Int) == 2) = true := beq_iff_eq.2 k2
            clear k2
            go_wp2_with fail
            refine CR.out.mono ?_
            rintro e w2 ⟨rfl, hB2⟩
            have hs2 : b + 2 ≤ w2.heap.size := by have := hB2.size; have := HSZ.out; omega
            have hbe2 := (hB2.block (b + 1) (by have := HSZ.out; omega)).trans HBE.out
            have hbr2 := (hB2.block b (by have := HSZ.out; omega)).trans HBR.out
            have hBw : Below b w w2 := HB.out.trans (hB2.mono (by have := HSZ.out; omega))
            obtain ⟨⟨m0, m1, m2, m3, m4, m5, m6, m7⟩, z0, z1, z2, z3, z4, z5, z6, z7⟩ := box8 hbe2
            have HBE2 := Lib.hid hbe2
            have HBR2 := Lib.hid hbr2
            have HBW := Lib.hid hBw
            clear hB2 hbe2 hbr2 hBw CR c0
            go_upto_region 14 with fail
            have hg5 : w2.grownBy (w2.setCell ⟨b + 1, 7, none⟩ (.int .i64 num)) (some (b + 1)) := grown_set _ _ _ _
            have h5 : (w2.setCell ⟨b + 1, 7, none⟩ (.int .i64 num)).heap[b + 1]? = some (.cells #[.int .i64 x.n, .int .i64 0, .int .i64 0, .int .i64 0, .string ⟨#[]⟩, .int .u32 0, .slice none 0 0, .int .i64 num] 29) := by simp [World.setCell, Array.getElem?_modify, HBE2.out]
            have h5r : (w2.setCell ⟨b + 1, 7, none⟩ (.int .i64 num)).heap[b]? = some Z8 := (hg5.block b (by omega) (by simp only [ne_eq, Option.some.injEq]; omega)).trans HBR2.out
            have hB5 : Below b w (w2.setCell ⟨b + 1, 7, none⟩ (.int .i64 num)) := HBW.out.grown hg5 (by omega) (fun k hk => by simp only [Option.some.injEq] at hk; omega)
            clear hg5
            generalize (w2.setCell ⟨b + 1, 7, none⟩ (.int .i64 num)) = w5 at h5 h5r hB5 ⊢
            obtain ⟨⟨d0, d1, d2, d3, d4, d5, d6, d7⟩, _⟩ := box8 h5
            obtain ⟨⟨e0, e1, e2, e3, e4, e5, e6, e7⟩, g0, g1, g2, g3, g4, g5, g6, g7⟩ := box8 h5r
            have hfin := stored8 h5r (.int .i64 x.n) (.int .i64 0) (.int .i64 0) (.int .i64 0) (.string ⟨#[]⟩) (.int .u32 0) (.slice none 0 0) (.int .i64 num)
            have hgr : w5.grownBy _ (some b) := set8_grown (W := w5) (b := b) (.int .i64 x.n) (.int .i64 0) (.int .i64 0) (.int .i64 0) (.string ⟨#[]⟩) (.int .u32 0) (.slice none 0 0) (.int .i64 num)
            have HFIN := Lib.hid hfin
            have HGR := Lib.hid hgr
            have HB5 := Lib.hid hB5
            clear hfin hgr hB5 h5 h5r
            go_wp2_with fail
            have hfin := HFIN.out
            have hgr := HGR.out
            clear HFIN HGR d0 d1 d2 d3 d4 d5 d6 d7 e0 e1 e2 e3 e4 e5 e6 e7 g0 g1 g2 g3 g4 g5 g6 g7
            generalize ((((((((w5.setCell ⟨b, 0, none⟩ (.int .i64 x.n)).setCell ⟨b, 1, none⟩ (.int .i64 0)).setCell ⟨b, 2, none⟩ (.int .i64 0)).setCell ⟨b, 3, none⟩ (.int .i64 0)).setCell ⟨b, 4, none⟩ (.string ⟨#[]⟩)).setCell ⟨b, 5, none⟩ (.int .u32 0)).setCell ⟨b, 6, none⟩ (.slice none 0 0)).setCell ⟨b, 7, none⟩ (.int .i64 num)) = W at hfin hgr ⊢
            obtain ⟨⟨p0, p1, p2, p3, p4, p5, p6, p7⟩, _⟩ := box8 hfin
            have hWB : Below w.heap.size w W := by rw [HBB.out]; exact HB5.out.grown hgr (by have := HBB.out; have := HB5.out.size; omega) (fun k hk => by simp only [Option.some.injEq] at hk; omega)
            refine bodyPost_ret (v := .tuple #[.agg #[.int .i64 x.n, .int .i64 0, .int .i64 0, .int .i64 0, .string ⟨#[]⟩, .int .u32 0, .slice none 0 0, .int .i64 num], .bool rb]) (by simp [results, Try.results25, go_sem, p0, p1, p2, p3, p4, p5, p6, p7]) rfl ⟨⟨x.n, zeroR, [], num⟩, none, 0, 0, by rw [HRR.out, ← HRB.out, ← HOO.out]; cases rdNum f <;> rfl, ?_, hWB⟩
            intro y hy
            rw [HRR.out, HOO.out] at hy
            match o, HNUM.out, hy with
            | some n', hn', hy =>
              obtain rfl := Option.some.inj hy
              have hn2 : n' = num := hn'
              exact ⟨by rw [← hn2], OpsW.nil _ _⟩
          · have hk2 : ((x.n : Int) == 2) = false := beq_eq_false_iff_ne.2 (by omega)
            have hk4 : ((x.n : Int) == 4) = true := beq_iff_eq.2 k2
            clear k2
            go_wp2_with fail
            refine CR.out.mono ?_
            rintro e w2 ⟨rfl, hB2⟩
            have hs2 : b + 2 ≤ w2.heap.size := by have := hB2.size; have := HSZ.out; omega
            have hbe2 := (hB2.block (b + 1) (by have := HSZ.out; omega)).trans HBE.out
            have hbr2 := (hB2.block b (by have := HSZ.out; omega)).trans HBR.out
            have hBw : Below b w w2 := HB.out.trans (hB2.mono (by have := HSZ.out; omega))
            obtain ⟨⟨m0, m1, m2, m3, m4, m5, m6, m7⟩, z0, z1, z2, z3, z4, z5, z6, z7⟩ := box8 hbe2
            have HBE2 := Lib.hid hbe2
            have HBR2 := Lib.hid hbr2
            have HBW := Lib.hid hBw
            clear hB2 hbe2 hbr2 hBw CR c0
            go_upto_region 14 with fail
            have hg5 : w2.grownBy (w2.setCell ⟨b + 1, 7, none⟩ (.int .i64 num)) (some (b + 1)) := grown_set _ _ _ _
            have h5 : (w2.setCell ⟨b + 1, 7, none⟩ (.int .i64 num)).heap[b + 1]? = some (.cells #[.int .i64 x.n, .int .i64 0, .int .i64 0, .int .i64 0, .string ⟨#[]⟩, .int .u32 0, .slice none 0 0, .int .i64 num] 29) := by simp [World.setCell, Array.getElem?_modify, HBE2.out]
            have h5r : (w2.setCell ⟨b + 1, 7, none⟩ (.int .i64 num)).heap[b]? = some Z8 := (hg5.block b (by omega) (by simp only [ne_eq, Option.some.injEq]; omega)).trans HBR2.out
            have hB5 : Below b w (w2.setCell ⟨b + 1, 7, none⟩ (.int .i64 num)) := HBW.out.grown hg5 (by omega) (fun k hk => by simp only [Option.some.injEq] at hk; omega)
            clear hg5
            generalize (w2.setCell ⟨b + 1, 7, none⟩ (.int .i64 num)) = w5 at h5 h5r hB5 ⊢
            obtain ⟨⟨d0, d1, d2, d3, d4, d5, d6, d7⟩, _⟩ := box8 h5
            obtain ⟨⟨e0, e1, e2, e3, e4, e5, e6, e7⟩, g0, g1, g2, g3, g4, g5, g6, g7⟩ := box8 h5r
            have hfin := stored8 h5r (.int .i64 x.n) (.int .i64 0) (.int .i64 0) (.int .i64 0) (.string ⟨#[]⟩) (.int .u32 0) (.slice none 0 0) (.int .i64 num)
            have hgr : w5.grownBy _ (some b) := set8_grown (W := w5) (b := b) (.int .i64 x.n) (.int .i64 0) (.int .i64 0) (.int .i64 0) (.string ⟨#[]⟩) (.int .u32 0) (.slice none 0 0) (.int .i64 num)
            have HFIN := Lib.hid hfin
            have HGR := Lib.hid hgr
            have HB5 := Lib.hid hB5
            clear hfin hgr hB5 h5 h5r
            go_wp2_with fail
            have hfin := HFIN.out
            have hgr := HGR.out
            clear HFIN HGR d0 d1 d2 d3 d4 d5 d6 d7 e0 e1 e2 e3 e4 e5 e6 e7 g0 g1 g2 g3 g4 g5 g6 g7
            generalize ((((((((w5.setCell ⟨b, 0, none⟩ (.int .i64 x.n)).setCell ⟨b, 1, none⟩ (.int .i64 0)).setCell ⟨b, 2, none⟩ (.int .i64 0)).setCell ⟨b, 3, none⟩ (.int .i64 0)).setCell ⟨b, 4, none⟩ (.string ⟨#[]⟩)).setCell ⟨b, 5, none⟩ (.int .u32 0)).setCell ⟨b, 6, none⟩ (.slice none 0 0)).setCell ⟨b, 7, none⟩ (.int .i64 num)) = W at hfin hgr ⊢
            obtain ⟨⟨p0, p1, p2, p3, p4, p5, p6, p7⟩, _⟩ := box8 hfin
            have hWB : Below w.heap.size w W := by rw [HBB.out]; exact HB5.out.grown hgr (by have := HBB.out; have := HB5.out.size; omega) (fun k hk => by simp only [Option.some.injEq] at hk; omega)
            refine bodyPost_ret (v := .tuple #[.agg #[.int .i64 x.n, .int .i64 0, .int .i64 0, .int .i64 0, .string ⟨#[]⟩, .int .u32 0, .slice none 0 0, .int .i64 num], .bool rb]) (by simp [results, Try.results25, go_sem, p0, p1, p2, p3, p4, p5, p6, p7]) rfl ⟨⟨x.n, zeroR, [], num⟩, none, 0, 0, by rw [HRR.out, ← HRB.out, ← HOO.out]; cases rdNum f <;> rfl, ?_, hWB⟩
            intro y hy
            rw [HRR.out, HOO.out] at hy
            match o, HNUM.out, hy with
            | some n', hn', hy =>
              obtain rfl := Option.some.inj hy
              have hn2 : n' = num := hn'
              exact ⟨by rw [← hn2], OpsW.nil _ _⟩
          · have hk2 : ((x.n : Int) == 2) = false := beq_eq_false_iff_ne.2 (by omega)
            have hk4 : ((x.n : Int) == 4) = false := beq_eq_false_iff_ne.2 (by omega)
            have hk5 : ((x.n : Int) == 5) = true := beq_iff_eq.2 k2
            clear k2
            go_wp2_with fail
            refine CR.out.mono ?_
            rintro e w2 ⟨rfl, hB2⟩
            have hs2 : b + 2 ≤ w2.heap.size := by have := hB2.size; have := HSZ.out; omega
            have hbe2 := (hB2.block (b + 1) (by have := HSZ.out; omega)).trans HBE.out
            have hbr2 := (hB2.block b (by have := HSZ.out; omega)).trans HBR.out
            have hBw : Below b w w2 := HB.out.trans (hB2.mono (by have := HSZ.out; omega))
            obtain ⟨⟨m0, m1, m2, m3, m4, m5, m6, m7⟩, z0, z1, z2, z3, z4, z5, z6, z7⟩ := box8 hbe2
            have HBE2 := Lib.hid hbe2
            have HBR2 := Lib.hid hbr2
            have HBW := Lib.hid hBw
            clear hB2 hbe2 hbr2 hBw CR c0
            go_upto_region 14 with fail
            have hg5 : w2.grownBy (w2.setCell ⟨b + 1, 7, none⟩ (.int .i64 num)) (some (b + 1)) := grown_set _ _ _ _
            have h5 : (w2.setCell ⟨b + 1, 7, none⟩ (.int .i64 num)).heap[b + 1]? = some (.cells #[.int .i64 x.n, .int .i64 0, .int .i64 0, .int .i64 0, .string ⟨#[]⟩, .int .u32 0, .slice none 0 0, .int .i64 num] 29) := by simp [World.setCell, Array.getElem?_modify, HBE2.out]
            have h5r : (w2.setCell ⟨b + 1, 7, none⟩ (.int .i64 num)).heap[b]? = some Z8 := (hg5.block b (by omega) (by simp only [ne_eq, Option.some.injEq]; omega)).trans HBR2.out
            have hB5 : Below b w (w2.setCell ⟨b + 1, 7, none⟩ (.int .i64 num)) := HBW.out.grown hg5 (by omega) (fun k hk => by simp only [Option.some.injEq] at hk; omega)
            clear hg5
            generalize (w2.setCell ⟨b + 1, 7, none⟩ (.int .i64 num)) = w5 at h5 h5r hB5 ⊢
            obtain ⟨⟨d0, d1, d2, d3, d4, d5, d6, d7⟩, _⟩ := box8 h5
            obtain ⟨⟨e0, e1, e2, e3, e4, e5, e6, e7⟩, g0, g1, g2, g3, g4, g5, g6, g7⟩ := box8 h5r
            have hfin := stored8 h5r (.int .i64 x.n) (.int .i64 0) (.int .i64 0) (.int .i64 0) (.string ⟨#[]⟩) (.int .u32 0) (.slice none 0 0) (.int .i64 num)
            have hgr : w5.grownBy _ (some b) := set8_grown (W := w5) (b := b) (.int .i64 x.n) (.int .i64 0) (.int .i64 0) (.int .i64 0) (.string ⟨#[]⟩) (.int .u32 0) (.slice none 0 0) (.int .i64 num)
            have HFIN := Lib.hid hfin
            have HGR := Lib.hid hgr
            have HB5 := Lib.hid hB5
            clear hfin hgr hB5 h5 h5r
            go_wp2_with fail
            have hfin := HFIN.out
            have hgr := HGR.out
            clear HFIN HGR d0 d1 d2 d3 d4 d5 d6 d7 e0 e1 e2 e3 e4 e5 e6 e7 g0 g1 g2 g3 g4 g5 g6 g7
            generalize ((((((((w5.setCell ⟨b, 0, none⟩ (.int .i64 x.n)).setCell ⟨b, 1, none⟩ (.int .i64 0)).setCell ⟨b, 2, none⟩ (.int .i64 0)).setCell ⟨b, 3, none⟩ (.int .i64 0)).setCell ⟨b, 4, none⟩ (.string ⟨#[]⟩)).setCell ⟨b, 5, none⟩ (.int .u32 0)).setCell ⟨b, 6, none⟩ (.slice none 0 0)).setCell ⟨b, 7, none⟩ (.int .i64 num)) = W at hfin hgr ⊢
            obtain ⟨⟨p0, p1, p2, p3, p4, p5, p6, p7⟩, _⟩ := box8 hfin
            have hWB : Below w.heap.size w W := by rw [HBB.out]; exact HB5.out.grown hgr (by have := HBB.out; have := HB5.out.size; omega) (fun k hk => by simp only [Option.some.injEq] at hk; omega)
            refine bodyPost_ret (v := .tuple #[.agg #[.int .i64 x.n, .int .i64 0, .int .i64 0, .int .i64 0, .string ⟨#[]⟩, .int .u32 0, .slice none 0 0, .int .i64 num], .bool rb]) (by simp [results, Try.results25, go_sem, p0, p1, p2, p3, p4, p5, p6, p7]) rfl ⟨⟨x.n, zeroR, [], num⟩, none, 0, 0, by rw [HRR.out, ← HRB.out, ← HOO.out]; cases rdNum f <;> rfl, ?_, hWB⟩
            intro y hy
            rw [HRR.out, HOO.out] at hy
            match o, HNUM.out, hy with
            | some n', hn', hy =>
              obtain rfl := Option.some.inj hy
              have hn2 : n' = num := hn'
              exact ⟨by rw [← hn2], OpsW.nil _ _⟩
        · have hro : ro = none := by rw [← HRO.out, rdE, if_neg k1, if_neg k3, if_neg k2]
          subst hro
          have hk2 : ((x.n : Int) == 2) = false := beq_eq_false_iff_ne.2 (by omega)
          have hk4 : ((x.n : Int) == 4) = false := beq_eq_false_iff_ne.2 (by omega)
          have hk5 : ((x.n : Int) == 5) = false := beq_eq_false_iff_ne.2 (by omega)
          clear k1 k2 k3
          go_upto_region 14 with fail
          have h5 := HBE.out
          have h5r := HBR.out
          have hB5 := HB.out
          obtain ⟨⟨d0, d1, d2, d3, d4, d5, d6, d7⟩, _⟩ := box8 h5
          obtain ⟨⟨e0, e1, e2, e3, e4, e5, e6, e7⟩, g0, g1, g2, g3, g4, g5, g6, g7⟩ := box8 h5r
          have hfin := stored8 h5r (.int .i64 x.n) (.int .i64 0) (.int .i64 0) (.int .i64 0) (.string ⟨#[]⟩) (.int .u32 0) (.slice none 0 0) (.int .i64 0)
          have hgr : w1.grownBy _ (some b) := set8_grown (W := w1) (b := b) (.int .i64 x.n) (.int .i64 0) (.int .i64 0) (.int .i64 0) (.string ⟨#[]⟩) (.int .u32 0) (.slice none 0 0) (.int .i64 0)
          have HFIN := Lib.hid hfin
          have HGR := Lib.hid hgr
          have HB5 := Lib.hid hB5
          clear hfin hgr hB5 h5 h5r
          go_wp2_with fail
          have hfin := HFIN.out
          have hgr := HGR.out
          clear HFIN HGR d0 d1 d2 d3 d4 d5 d6 d7 e0 e1 e2 e3 e4 e5 e6 e7 g0 g1 g2 g3 g4 g5 g6 g7
          generalize ((((((((w1.setCell ⟨b, 0, none⟩ (.int .i64 x.n)).setCell ⟨b, 1, none⟩ (.int .i64 0)).setCell ⟨b, 2, none⟩ (.int .i64 0)).setCell ⟨b, 3, none⟩ (.int .i64 0)).setCell ⟨b, 4, none⟩ (.string ⟨#[]⟩)).setCell ⟨b, 5, none⟩ (.int .u32 0)).setCell ⟨b, 6, none⟩ (.slice none 0 0)).setCell ⟨b, 7, none⟩ (.int .i64 0)) = W at hfin hgr ⊢
          obtain ⟨⟨p0, p1, p2, p3, p4, p5, p6, p7⟩, _⟩ := box8 hfin
          have hWB : Below w.heap.size w W := by rw [HBB.out]; exact HB5.out.grown hgr (by have := HBB.out; have := HB5.out.size; omega) (fun k hk => by simp only [Option.some.injEq] at hk; omega)
          refine bodyPost_ret (v := .tuple #[.agg #[.int .i64 x.n, .int .i64 0, .int .i64 0, .int .i64 0, .string ⟨#[]⟩, .int .u32 0, .slice none 0 0, .int .i64 0], .bool false]) (by simp [results, Try.results25, go_sem, p0, p1, p2, p3, p4, p5, p6, p7]) rfl ⟨⟨x.n, zeroR, [], 0⟩, none, 0, 0, rfl, ?_, hWB⟩
          exact fun y hy => by cases hy
  · have hcap2 : ¬ (cap : Int) = 1 := by omega
    have HF : Hid (Old w.heap.size w (.slice (some ⟨ib, io + 4, none⟩) n (cap - 1)) f) := Lib.hid HTL.out
    go_upto_region 5 with fail
    by_cases k1 : x.n = 1
    · have hk1 : ((x.n : Int) == 1) = true := beq_iff_eq.2 k1
      have hro : ro = (rdRec f).map fun r => ⟨1, r, [], 0⟩ := by rw [← HRO.out, rdE, if_pos k1]
      have HRR := Lib.hid hro
      have CR := Lib.hid (readRecord_calls f (by rw [HN.out]; omega) _ w1 (Items.mono (fun k hk => by have := HSZ.out; have := HBB.out; omega) (Items.low (by rw [HBB.out]; exact HB.out) HF.out)))
      have HK := Lib.hid k1
      clear k1 hro
      go_wp2_with fail
      refine CR.out.mono ?_
      rintro e w2 ⟨r, rfl, hr, hB2⟩
      have HRL := Lib.hid hr
      clear hr
      have hs2 : b + 2 ≤ w2.heap.size := by have := hB2.size; have := HSZ.out; omega
      have hbe2 := (hB2.block (b + 1) (by have := HSZ.out; omega)).trans HBE.out
      have hbr2 := (hB2.block b (by have := HSZ.out; omega)).trans HBR.out
      have hBw : Below b w w2 := HB.out.trans (hB2.mono (by have := HSZ.out; omega))
      obtain ⟨⟨m0, m1, m2, m3, m4, m5, m6, m7⟩, z0, z1, z2, z3, z4, z5, z6, z7⟩ := box8 hbe2
      have HBE2 := Lib.hid hbe2
      have HBR2 := Lib.hid hbr2
      have HBW := Lib.hid hBw
      clear hB2 hbe2 hbr2 hBw CR c0
      go_upto_region 14 with fail
      have hg5 : w2.grownBy (((((w2.setCell ⟨b + 1, 1, none⟩ (.int .i64 r.p)).setCell ⟨b + 1, 2, none⟩ (.int .i64 r.q)).setCell ⟨b + 1, 3, none⟩ (.int .i64 r.a)).setCell ⟨b + 1, 4, none⟩ (.string r.key)).setCell ⟨b + 1, 5, none⟩ (.int .u32 (r.val : Nat))) (some (b + 1)) := ((((grown_set _ _ _ _).trans (grown_set _ _ _ _)).trans (grown_set _ _ _ _)).trans (grown_set _ _ _ _)).trans (grown_set _ _ _ _)
      have h5 : (((((w2.setCell ⟨b + 1, 1, none⟩ (.int .i64 r.p)).setCell ⟨b + 1, 2, none⟩ (.int .i64 r.q)).setCell ⟨b + 1, 3, none⟩ (.int .i64 r.a)).setCell ⟨b + 1, 4, none⟩ (.string r.key)).setCell ⟨b + 1, 5, none⟩ (.int .u32 (r.val : Nat))).heap[b + 1]? = some (.cells #[.int .i64 x.n, .int .i64 r.p, .int .i64 r.q, .int .i64 r.a, .string r.key, .int .u32 (r.val : Nat), .slice none 0 0, .int .i64 0] 29) := by simp [World.setCell, Array.getElem?_modify, HBE2.out]
      have h5r : (((((w2.setCell ⟨b + 1, 1, none⟩ (.int .i64 r.p)).setCell ⟨b + 1, 2, none⟩ (.int .i64 r.q)).setCell ⟨b + 1, 3, none⟩ (.int .i64 r.a)).setCell ⟨b + 1, 4, none⟩ (.string r.key)).setCell ⟨b + 1, 5, none⟩ (.int .u32 (r.val : Nat))).heap[b]? = some Z8 := (hg5.block b (by omega) (by simp only [ne_eq, Option.some.injEq]; omega)).trans HBR2.out
      have hB5 : Below b w (((((w2.setCell ⟨b + 1, 1, none⟩ (.int .i64 r.p)).setCell ⟨b + 1, 2, none⟩ (.int .i64 r.q)).setCell ⟨b + 1, 3, none⟩ (.int .i64 r.a)).setCell ⟨b + 1, 4, none⟩ (.string r.key)).setCell ⟨b + 1, 5, none⟩ (.int .u32 (r.val : Nat))) := HBW.out.grown hg5 (by omega) (fun k hk => by simp only [Option.some.injEq] at hk; omega)
      clear hg5
      generalize (((((w2.setCell ⟨b + 1, 1, none⟩ (.int .i64 r.p)).setCell ⟨b + 1, 2, none⟩ (.int .i64 r.q)).setCell ⟨b + 1, 3, none⟩ (.int .i64 r.a)).setCell ⟨b + 1, 4, none⟩ (.string r.key)).setCell ⟨b + 1, 5, none⟩ (.int .u32 (r.val : Nat))) = w5 at h5 h5r hB5 ⊢
      obtain ⟨⟨d0, d1, d2, d3, d4, d5, d6, d7⟩, _⟩ := box8 h5
      obtain ⟨⟨e0, e1, e2, e3, e4, e5, e6, e7⟩, g0, g1, g2, g3, g4, g5, g6, g7⟩ := box8 h5r
      have hfin := stored8 h5r (.int .i64 x.n) (.int .i64 r.p) (.int .i64 r.q) (.int .i64 r.a) (.string r.key) (.int .u32 (r.val : Nat)) (.slice none 0 0) (.int .i64 0)
      have hgr : w5.grownBy _ (some b) := set8_grown (W := w5) (b := b) (.int .i64 x.n) (.int .i64 r.p) (.int .i64 r.q) (.int .i64 r.a) (.string r.key) (.int .u32 (r.val : Nat)) (.slice none 0 0) (.int .i64 0)
      have HFIN := Lib.hid hfin
      have HGR := Lib.hid hgr
      have HB5 := Lib.hid hB5
      clear hfin hgr hB5 h5 h5r
      go_wp2_with fail
      have hfin := HFIN.out
      have hgr := HGR.out
      clear HFIN HGR d0 d1 d2 d3 d4 d5 d6 d7 e0 e1 e2 e3 e4 e5 e6 e7 g0 g1 g2 g3 g4 g5 g6 g7
      generalize ((((((((w5.setCell ⟨b, 0, none⟩ (.int .i64 x.n)).setCell ⟨b, 1, none⟩ (.int .i64 r.p)).setCell ⟨b, 2, none⟩ (.int .i64 r.q)).setCell ⟨b, 3, none⟩ (.int .i64 r.a)).setCell ⟨b, 4, none⟩ (.string r.key)).setCell ⟨b, 5, none⟩ (.int .u32 (r.val : Nat))).setCell ⟨b, 6, none⟩ (.slice none 0 0)).setCell ⟨b, 7, none⟩ (.int .i64 0)) = W at hfin hgr ⊢
      obtain ⟨⟨p0, p1, p2, p3, p4, p5, p6, p7⟩, _⟩ := box8 hfin
      have hWB : Below w.heap.size w W := by rw [HBB.out]; exact HB5.out.grown hgr (by have := HBB.out; have := HB5.out.size; omega) (fun k hk => by simp only [Option.some.injEq] at hk; omega)
      refine bodyPost_ret (v := .tuple #[.agg #[.int .i64 x.n, .int .i64 r.p, .int .i64 r.q, .int .i64 r.a, .string r.key, .int .u32 (r.val : Nat), .slice none 0 0, .int .i64 0], .bool (rdRec f).isSome]) (by simp [results, Try.results25, go_sem, p0, p1, p2, p3, p4, p5, p6, p7]) rfl ⟨⟨x.n, r, [], 0⟩, none, 0, 0, by rw [HRR.out]; cases rdRec f <;> rfl, ?_, hWB⟩
      intro y hy
      rw [HRR.out] at hy
      match hq : rdRec f with
      | none => rw [hq] at hy; cases hy
      | some r' =>
        rw [hq] at hy
        obtain rfl := Option.some.inj hy
        obtain rfl := HRL.out r' hq
        exact ⟨by rw [HK.out], OpsW.nil _ _⟩
    · have hk1 : ((x.n : Int) == 1) = false := beq_eq_false_iff_ne.2 k1
      by_cases k3 : x.n = 3
      · have hk3 : ((x.n : Int) == 3) = true := beq_iff_eq.2 k3
        have hro : ro = (rdGraph f).map fun l => ⟨3, zeroR, l, 0⟩ := by rw [← HRO.out, rdE, if_neg k1, if_pos k3]
        have HRR := Lib.hid hro
        have CR := Lib.hid (readGraph_calls f HSF.out _ w1 (Items.mono (fun k hk => by have := HSZ.out; have := HBB.out; omega) (Items.low (by rw [HBB.out]; exact HB.out) HF.out)))
        have HK := Lib.hid k3
        clear k1 k3 hro
        go_wp2_with fail
        refine CR.out.mono ?_
        rintro e w2 ⟨A1, n1, c1, rfl, hr, hB2⟩
        have HRL := Lib.hid hr
        clear hr
        have hs2 : b + 2 ≤ w2.heap.size := by have := hB2.size; have := HSZ.out; omega
        have hbe2 := (hB2.block (b + 1) (by have := HSZ.out; omega)).trans HBE.out
        have hbr2 := (hB2.block b (by have := HSZ.out; omega)).trans HBR.out
        have hBw : Below b w w2 := HB.out.trans (hB2.mono (by have := HSZ.out; omega))
        obtain ⟨⟨m0, m1, m2, m3, m4, m5, m6, m7⟩, z0, z1, z2, z3, z4, z5, z6, z7⟩ := box8 hbe2
        have HBE2 := Lib.hid hbe2
        have HBR2 := Lib.hid hbr2
        have HBW := Lib.hid hBw
        clear hB2 hbe2 hbr2 hBw CR c0
        go_upto_region 14 with fail
        have hg5 : w2.grownBy (w2.setCell ⟨b + 1, 6, none⟩ (.slice A1 n1 c1)) (some (b + 1)) := grown_set _ _ _ _
        have h5 : (w2.setCell ⟨b + 1, 6, none⟩ (.slice A1 n1 c1)).heap[b + 1]? = some (.cells #[.int .i64 x.n, .int .i64 0, .int .i64 0, .int .i64 0, .string ⟨#[]⟩, .int .u32 0, .slice A1 n1 c1, .int .i64 0] 29) := by simp [World.setCell, Array.getElem?_modify, HBE2.out]
        have h5r : (w2.setCell ⟨b + 1, 6, none⟩ (.slice A1 n1 c1)).heap[b]? = some Z8 := (hg5.block b (by omega) (by simp only [ne_eq, Option.some.injEq]; omega)).trans HBR2.out
        have hB5 : Below b w (w2.setCell ⟨b + 1, 6, none⟩ (.slice A1 n1 c1)) := HBW.out.grown hg5 (by omega) (fun k hk => by simp only [Option.some.injEq] at hk; omega)
        have h5o : ∀ ops, rdGraph f = some ops → OpsW (fun k => b + 2 ≤ k ∧ k < (w2.setCell ⟨b + 1, 6, none⟩ (.slice A1 n1 c1)).heap.size) (w2.setCell ⟨b + 1, 6, none⟩ (.slice A1 n1 c1)) (.slice A1 n1 c1) ops := fun ops h => (HRL.out ops h).keep (fun k hk => Below.heap_setCell _ _ _ _ (by show k ≠ b + 1; have := hk.1; have := HSZ.out; omega)) (fun k hk => ⟨by have := hk.1; have := HSZ.out; omega, by have := hk.2; simpa [World.setCell] using this⟩)
        clear hg5
        generalize (w2.setCell ⟨b + 1, 6, none⟩ (.slice A1 n1 c1)) = w5 at h5 h5r hB5 h5o ⊢
        obtain ⟨⟨d0, d1, d2, d3, d4, d5, d6, d7⟩, _⟩ := box8 h5
        obtain ⟨⟨e0, e1, e2, e3, e4, e5, e6, e7⟩, g0, g1, g2, g3, g4, g5, g6, g7⟩ := box8 h5r
        have hfin := stored8 h5r (.int .i64 x.n) (.int .i64 0) (.int .i64 0) (.int .i64 0) (.string ⟨#[]⟩) (.int .u32 0) (.slice A1 n1 c1) (.int .i64 0)
        have hgr : w5.grownBy _ (some b) := set8_grown (W := w5) (b := b) (.int .i64 x.n) (.int .i64 0) (.int .i64 0) (.int .i64 0) (.string ⟨#[]⟩) (.int .u32 0) (.slice A1 n1 c1) (.int .i64 0)
        have HFIN := Lib.hid hfin
        have HGR := Lib.hid hgr
        have HB5 := Lib.hid hB5
        have HOPS := Lib.hid h5o
        clear h5o
        clear hfin hgr hB5 h5 h5r
        go_wp2_with fail
        have hfin := HFIN.out
        have hgr := HGR.out
        clear HFIN HGR d0 d1 d2 d3 d4 d5 d6 d7 e0 e1 e2 e3 e4 e5 e6 e7 g0 g1 g2 g3 g4 g5 g6 g7
        generalize ((((((((w5.setCell ⟨b, 0, none⟩ (.int .i64 x.n)).setCell ⟨b, 1, none⟩ (.int .i64 0)).setCell ⟨b, 2, none⟩ (.int .i64 0)).setCell ⟨b, 3, none⟩ (.int .i64 0)).setCell ⟨b, 4, none⟩ (.string ⟨#[]⟩)).setCell ⟨b, 5, none⟩ (.int .u32 0)).setCell ⟨b, 6, none⟩ (.slice A1 n1 c1)).setCell ⟨b, 7, none⟩ (.int .i64 0)) = W at hfin hgr ⊢
        obtain ⟨⟨p0, p1, p2, p3, p4, p5, p6, p7⟩, _⟩ := box8 hfin
        have hWB : Below w.heap.size w W := by rw [HBB.out]; exact HB5.out.grown hgr (by have := HBB.out; have := HB5.out.size; omega) (fun k hk => by simp only [Option.some.injEq] at hk; omega)
        refine bodyPost_ret (v := .tuple #[.agg #[.int .i64 x.n, .int .i64 0, .int .i64 0, .int .i64 0, .string ⟨#[]⟩, .int .u32 0, .slice A1 n1 c1, .int .i64 0], .bool (rdGraph f).isSome]) (by simp [results, Try.results25, go_sem, p0, p1, p2, p3, p4, p5, p6, p7]) rfl ⟨⟨x.n, zeroR, (rdGraph f).getD [], 0⟩, A1, n1, c1, by rw [HRR.out]; cases rdGraph f <;> rfl, ?_, hWB⟩
        intro y hy
        rw [HRR.out] at hy
        match hq : rdGraph f with
        | none => rw [hq] at hy; cases hy
        | some ops =>
          rw [hq] at hy
          obtain rfl := Option.some.inj hy
          exact ⟨by rw [HK.out]; rfl, (HOPS.out ops hq).keep (fun k hk => hgr.block k hk.2 (by simp only [ne_eq, Option.some.injEq]; have := hk.1; omega)) (fun k hk => ⟨by have := hk.1; have := HBB.out; omega, Nat.lt_of_lt_of_le hk.2 hgr.size⟩)⟩
      · have hk3 : ((x.n : Int) == 3) = false := beq_eq_false_iff_ne.2 k3
        by_cases k2 : x.n = 2 ∨ x.n = 4 ∨ x.n = 5
        · have hro : ro = (rdNum f).map fun n => ⟨x.n, zeroR, [], n⟩ := by rw [← HRO.out, rdE, if_neg k1, if_neg k3, if_pos k2]
          have HRR := Lib.hid hro
          obtain ⟨o, ho⟩ : ∃ o, rdNum f = o := ⟨_, rfl⟩
          obtain ⟨num, hnum⟩ : ∃ num, o.getD 0 = num := ⟨_, rfl⟩
          obtain ⟨rb, hrb⟩ : ∃ rb, o.isSome = rb := ⟨_, rfl⟩
          have cr := readNumber_calls f (by rw [HN.out]; omega) _ w1 (Items.mono (fun k hk => by have := HSZ.out; have := HBB.out; omega) (Items.low (by rw [HBB.out]; exact HB.out) HF.out))
          rw [ho] at cr
          unfold RetNum at cr
          rw [hnum, hrb] at cr
          have CR := Lib.hid cr
          have HOO := Lib.hid ho
          have HNUM := Lib.hid hnum
          have HRB := Lib.hid hrb
          clear k1 k3 hro ho hnum hrb cr
          rcases k2 with k2 | k2 | k2
          · have hk2 : ((x.n : Int) == 2) = true := beq_iff_eq.2 k2
            clear k2
            go_wp2_with fail
            refine CR.out.mono ?_
            rintro e w2 ⟨rfl, hB2⟩
            have hs2 : b + 2 ≤ w2.heap.size := by have := hB2.size; have := HSZ.out; omega
            have hbe2 := (hB2.block (b + 1) (by have := HSZ.out; omega)).trans HBE.out
            have hbr2 := (hB2.block b (by have := HSZ.out; omega)).trans HBR.out
            have hBw : Below b w w2 := HB.out.trans (hB2.mono (by have := HSZ.out; omega))
            obtain ⟨⟨m0, m1, m2, m3, m4, m5, m6, m7⟩, z0, z1, z2, z3, z4, z5, z6, z7⟩ := box8 hbe2
            have HBE2 := Lib.hid hbe2
            have HBR2 := Lib.hid hbr2
            have HBW := Lib.hid hBw
            clear hB2 hbe2 hbr2 hBw CR c0
            go_upto_region 14 with fail
            have hg5 : w2.grownBy (w2.setCell ⟨b + 1, 7, none⟩ (.int .i64 num)) (some (b + 1)) := grown_set _ _ _ _
            have h5 : (w2.setCell ⟨b + 1, 7, none⟩ (.int .i64 num)).heap[b + 1]? = some (.cells #[.int .i64 x.n, .int .i64 0, .int .i64 0, .int .i64 0, .string ⟨#[]⟩, .int .u32 0, .slice none 0 0, .int .i64 num] 29) := by simp [World.setCell, Array.getElem?_modify, HBE2.out]
            have h5r : (w2.setCell ⟨b + 1, 7, none⟩ (.int .i64 num)).heap[b]? = some Z8 := (hg5.block b (by omega) (by simp only [ne_eq, Option.some.injEq]; omega)).trans HBR2.out
            have hB5 : Below b w (w2.setCell ⟨b + 1, 7, none⟩ (.int .i64 num)) := HBW.out.grown hg5 (by omega) (fun k hk => by simp only [Option.some.injEq] at hk; omega)
            clear hg5
            generalize (w2.setCell ⟨b + 1, 7, none⟩ (.int .i64 num)) = w5 at h5 h5r hB5 ⊢
            obtain ⟨⟨d0, d1, d2, d3, d4, d5, d6, d7⟩, _⟩ := box8 h5
            obtain ⟨⟨e0, e1, e2, e3, e4, e5, e6, e7⟩, g0, g1, g2, g3, g4, g5, g6, g7⟩ := box8 h5r
            have hfin := stored8 h5r (.int .i64 x.n) (.int .i64 0) (.int .i64 0) (.int .i64 0) (.string ⟨#[]⟩) (.int .u32 0) (.slice none 0 0) (.int .i64 num)
            have hgr : w5.grownBy _ (some b) := set8_grown (W := w5) (b := b) (.int .i64 x.n) (.int .i64 0) (.int .i64 0) (.int .i64 0) (.string ⟨#[]⟩) (.int .u32 0) (.slice none 0 0) (.int .i64 num)
            have HFIN := Lib.hid hfin
            have HGR := Lib.hid hgr
            have HB5 := Lib.hid hB5
            clear hfin hgr hB5 h5 h5r
            go_wp2_with fail
            have hfin := HFIN.out
            have hgr := HGR.out
            clear HFIN HGR d0 d1 d2 d3 d4 d5 d6 d7 e0 e1 e2 e3 e4 e5 e6 e7 g0 g1 g2 g3 g4 g5 g6 g7
            generalize ((((((((w5.setCell ⟨b, 0, none⟩ (.int .i64 x.n)).setCell ⟨b, 1, none⟩ (.int .i64 0)).setCell ⟨b, 2, none⟩ (.int .i64 0)).setCell ⟨b, 3, none⟩ (.int .i64 0)).setCell ⟨b, 4, none⟩ (.string ⟨#[]⟩)).setCell ⟨b, 5, none⟩ (.int .u32 0)).setCell ⟨b, 6, none⟩ (.slice none 0 0)).setCell ⟨b, 7, none⟩ (.int .i64 num)) = W at hfin hgr ⊢
            obtain ⟨⟨p0, p1, p2, p3, p4, p5, p6, p7⟩, _⟩ := box8 hfin
            have hWB : Below w.heap.size w W := by rw [HBB.out]; exact HB5.out.grown hgr (by have := HBB.out; have := HB5.out.size; omega) (fun k hk => by simp only [Option.some.injEq] at hk; omega)
            refine bodyPost_ret (v := .tuple #[.agg #[.int .i64 x.n, .int .i64 0, .int .i64 0, .int .i64 0, .string ⟨#[]⟩, .int .u32 0, .slice none 0 0, .int .i64 num], .bool rb]) (by simp [results, Try.results25, go_sem, p0, p1, p2, p3, p4, p5, p6, p7]) rfl ⟨⟨x.n, zeroR, [], num⟩, none, 0, 0, by rw [HRR.out, ← HRB.out, ← HOO.out]; cases rdNum f <;> rfl, ?_, hWB⟩
            intro y hy
            rw [HRR.out, HOO.out] at hy
            match o, HNUM.out, hy with
            | some n', hn', hy =>
              obtain rfl := Option.some.inj hy
              have hn2 : n' = num := hn'
              exact ⟨by rw [← hn2], OpsW.nil _ _⟩
          · have hk2 : ((x.n : Int) == 2) = false := beq_eq_false_iff_ne.2 (by omega)
            have hk4 : ((x.n : Int) == 4) = true := beq_iff_eq.2 k2
            clear k2
            go_wp2_with fail
            refine CR.out.mono ?_
            rintro e w2 ⟨rfl, hB2⟩
            have hs2 : b + 2 ≤ w2.heap.size := by have := hB2.size; have := HSZ.out; omega
            have hbe2 := (hB2.block (b + 1) (by have := HSZ.out; omega)).trans HBE.out
            have hbr2 := (hB2.block b (by have := HSZ.out; omega)).trans HBR.out
            have hBw : Below b w w2 := HB.out.trans (hB2.mono (by have := HSZ.out; omega))
            obtain ⟨⟨m0, m1, m2, m3, m4, m5, m6, m7⟩, z0, z1, z2, z3, z4, z5, z6, z7⟩ := box8 hbe2
            have HBE2 := Lib.hid hbe2
            have HBR2 := Lib.hid hbr2
            have HBW := Lib.hid hBw
            clear hB2 hbe2 hbr2 hBw CR c0
            go_upto_region 14 with fail
            have hg5 : w2.grownBy (w2.setCell ⟨b + 1, 7, none⟩ (.int .i64 num)) (some (b + 1)) := grown_set _ _ _ _
            have h5 : (w2.setCell ⟨b + 1, 7, none⟩ (.int .i64 num)).heap[b + 1]? = some (.cells #[.int .i64 x.n, .int .i64 0, .int .i64 0, .int .i64 0, .string ⟨#[]⟩, .int .u32 0, .slice none 0 0, .int .i64 num] 29) := by simp [World.setCell, Array.getElem?_modify, HBE2.out]
            have h5r : (w2.setCell ⟨b + 1, 7, none⟩ (.int .i64 num)).heap[b]? = some Z8 := (hg5.block b (by omega) (by simp only [ne_eq, Option.some.injEq]; omega)).trans HBR2.out
            have hB5 : Below b w (w2.setCell ⟨b + 1, 7, none⟩ (.int .i64 num)) := HBW.out.grown hg5 (by omega) (fun k hk => by simp only [Option.some.injEq] at hk; omega)
            clear hg5
            generalize (w2.setCell ⟨b + 1, 7, none⟩ (.int .i64 num)) = w5 at h5 h5r hB5 ⊢
            obtain ⟨⟨d0, d1, d2, d3, d4, d5, d6, d7⟩, _⟩ := box8 h5
            obtain ⟨⟨e0, e1, e2, e3, e4, e5, e6, e7⟩, g0, g1, g2, g3, g4, g5, g6, g7⟩ := box8 h5r
            have hfin := stored8 h5r (.int .i64 x.n) (.int .i64 0) (.int .i64 0) (.int .i64 0) (.string ⟨#[]⟩) (.int .u32 0) (.slice none 0 0) (.int .i64 num)
            have hgr : w5.grownBy _ (some b) := set8_grown (W := w5) (b := b) (.int .i64 x.n) (.int .i64 0) (.int .i64 0) (.int .i64 0) (.string ⟨#[]⟩) (.int .u32 0) (.slice none 0 0) (.int .i64 num)
            have HFIN := Lib.hid hfin
            have HGR := Lib.hid hgr
            have HB5 := Lib.hid hB5
            clear hfin hgr hB5 h5 h5r
            go_wp2_with fail
            have hfin := HFIN.out
            have hgr := HGR.out
            clear HFIN HGR d0 d1 d2 d3 d4 d5 d6 d7 e0 e1 e2 e3 e4 e5 e6 e7 g0 g1 g2 g3 g4 g5 g6 g7
            generalize ((((((((w5.setCell ⟨b, 0, none⟩ (.int .i64 x.n)).setCell ⟨b, 1, none⟩ (.int .i64 0)).setCell ⟨b, 2, none⟩ (.int .i64 0)).setCell ⟨b, 3, none⟩ (.int .i64 0)).setCell ⟨b, 4, none⟩ (.string ⟨#[]⟩)).setCell ⟨b, 5, none⟩ (.int .u32 0)).setCell ⟨b, 6, none⟩ (.slice none 0 0)).setCell ⟨b, 7, none⟩ (.int .i64 num)) = W at hfin hgr ⊢
            obtain ⟨⟨p0, p1, p2, p3, p4, p5, p6, p7⟩, _⟩ := box8 hfin
            have hWB : Below w.heap.size w W := by rw [HBB.out]; exact HB5.out.grown hgr (by have := HBB.out; have := HB5.out.size; omega) (fun k hk => by simp only [Option.some.injEq] at hk; omega)
            refine bodyPost_ret (v := .tuple #[.agg #[.int .i64 x.n, .int .i64 0, .int .i64 0, .int .i64 0, .string ⟨#[]⟩, .int .u32 0, .slice none 0 0, .int .i64 num], .bool rb]) (by simp [results, Try.results25, go_sem, p0, p1, p2, p3, p4, p5, p6, p7]) rfl ⟨⟨x.n, zeroR, [], num⟩, none, 0, 0, by rw [HRR.out, ← HRB.out, ← HOO.out]; cases rdNum f <;> rfl, ?_, hWB⟩
            intro y hy
            rw [HRR.out, HOO.out] at hy
            match o, HNUM.out, hy with
            | some n', hn', hy =>
              obtain rfl := Option.some.inj hy
              have hn2 : n' = num := hn'
              exact ⟨by rw [← hn2], OpsW.nil _ _⟩
          · have hk2 : ((x.n : Int) == 2) = false := beq_eq_false_iff_ne.2 (by omega)
            have hk4 : ((x.n : Int) == 4) = false := beq_eq_false_iff_ne.2 (by omega)
            have hk5 : ((x.n : Int) == 5) = true := beq_iff_eq.2 k2
            clear k2
            go_wp2_with fail
            refine CR.out.mono ?_
            rintro e w2 ⟨rfl, hB2⟩
            have hs2 : b + 2 ≤ w2.heap.size := by have := hB2.size; have := HSZ.out; omega
            have hbe2 := (hB2.block (b + 1) (by have := HSZ.out; omega)).trans HBE.out
            have hbr2 := (hB2.block b (by have := HSZ.out; omega)).trans HBR.out
            have hBw : Below b w w2 := HB.out.trans (hB2.mono (by have := HSZ.out; omega))
            obtain ⟨⟨m0, m1, m2, m3, m4, m5, m6, m7⟩, z0, z1, z2, z3, z4, z5, z6, z7⟩ := box8 hbe2
            have HBE2 := Lib.hid hbe2
            have HBR2 := Lib.hid hbr2
            have HBW := Lib.hid hBw
            clear hB2 hbe2 hbr2 hBw CR c0
            go_upto_region 14 with fail
            have hg5 : w2.grownBy (w2.setCell ⟨b + 1, 7, none⟩ (.int .i64 num)) (some (b + 1)) := grown_set _ _ _ _
            have h5 : (w2.setCell ⟨b + 1, 7, none⟩ (.int .i64 num)).heap[b + 1]? = some (.cells #[.int .i64 x.n, .int .i64 0, .int .i64 0, .int .i64 0, .string ⟨#[]⟩, .int .u32 0, .slice none 0 0, .int .i64 num] 29) := by simp [World.setCell, Array.getElem?_modify, HBE2.out]
            have h5r : (w2.setCell ⟨b + 1, 7, none⟩ (.int .i64 num)).heap[b]? = some Z8 := (hg5.block b (by omega) (by simp only [ne_eq, Option.some.injEq]; omega)).trans HBR2.out
            have hB5 : Below b w (w2.setCell ⟨b + 1, 7, none⟩ (.int .i64 num)) := HBW.out.grown hg5 (by omega) (fun k hk => by simp only [Option.some.injEq] at hk; omega)
            clear hg5
            generalize (w2.setCell ⟨b + 1, 7, none⟩ (.int .i64 num)) = w5 at h5 h5r hB5 ⊢
            obtain ⟨⟨d0, d1, d2, d3, d4, d5, d6, d7⟩, _⟩ := box8 h5
            obtain ⟨⟨e0, e1, e2, e3, e4, e5, e6, e7⟩, g0, g1, g2, g3, g4, g5, g6, g7⟩ := box8 h5r
            have hfin := stored8 h5r (.int .i64 x.n) (.int .i64 0) (.int .i64 0) (.int .i64 0) (.string ⟨#[]⟩) (.int .u32 0) (.slice none 0 0) (.int .i64 num)
            have hgr : w5.grownBy _ (some b) := set8_grown (W := w5) (b := b) (.int .i64 x.n) (.int .i64 0) (.int .i64 0) (.int .i64 0) (.string ⟨#[]⟩) (.int .u32 0) (.slice none 0 0) (.int .i64 num)
            have HFIN := Lib.hid hfin
            have HGR := Lib.hid hgr
            have HB5 := Lib.hid hB5
            clear hfin hgr hB5 h5 h5r
            go_wp2_with fail
            have hfin := HFIN.out
            have hgr := HGR.out
            clear HFIN HGR d0 d1 d2 d3 d4 d5 d6 d7 e0 e1 e2 e3 e4 e5 e6 e7 g0 g1 g2 g3 g4 g5 g6 g7
            generalize ((((((((w5.setCell ⟨b, 0, none⟩ (.int .i64 x.n)).setCell ⟨b, 1, none⟩ (.int .i64 0)).setCell ⟨b, 2, none⟩ (.int .i64 0)).setCell ⟨b, 3, none⟩ (.int .i64 0)).setCell ⟨b, 4, none⟩ (.string ⟨#[]⟩)).setCell ⟨b, 5, none⟩ (.int .u32 0)).setCell ⟨b, 6, none⟩ (.slice none 0 0)).setCell ⟨b, 7, none⟩ (.int .i64 num)) = W at hfin hgr ⊢
            obtain ⟨⟨p0, p1, p2, p3, p4, p5, p6, p7⟩, _⟩ := box8 hfin
            have hWB : Below w.heap.size w W := by rw [HBB.out]; exact HB5.out.grown hgr (by have := HBB.out; have := HB5.out.size; omega) (fun k hk => by simp only [Option.some.injEq] at hk; omega)
            refine bodyPost_ret (v := .tuple #[.agg #[.int .i64 x.n, .int .i64 0, .int .i64 0, .int .i64 0, .string ⟨#[]⟩, .int .u32 0, .slice none 0 0, .int .i64 num], .bool rb]) (by simp [results, Try.results25, go_sem, p0, p1, p2, p3, p4, p5, p6, p7]) rfl ⟨⟨x.n, zeroR, [], num⟩, none, 0, 0, by rw [HRR.out, ← HRB.out, ← HOO.out]; cases rdNum f <;> rfl, ?_, hWB⟩
            intro y hy
            rw [HRR.out, HOO.out] at hy
            match o, HNUM.out, hy with
            | some n', hn', hy =>
              obtain rfl := Option.some.inj hy
              have hn2 : n' = num := hn'
              exact ⟨by rw [← hn2], OpsW.nil _ _⟩
        · have hro : ro = none := by rw [← HRO.out, rdE, if_neg k1, if_neg k3, if_neg k2]
          subst hro
          have hk2 : ((x.n : Int) == 2) = false := beq_eq_false_iff_ne.2 (by omega)
          have hk4 : ((x.n : Int) == 4) = false := beq_eq_false_iff_ne.2 (by omega)
          have hk5 : ((x.n : Int) == 5) = false := beq_eq_false_iff_ne.2 (by omega)
          clear k1 k2 k3
          go_upto_region 14 with fail
          have h5 := HBE.out
          have h5r := HBR.out
          have hB5 := HB.out
          obtain ⟨⟨d0, d1, d2, d3, d4, d5, d6, d7⟩, _⟩ := box8 h5
          obtain ⟨⟨e0, e1, e2, e3, e4, e5, e6, e7⟩, g0, g1, g2, g3, g4, g5, g6, g7⟩ := box8 h5r
          have hfin := stored8 h5r (.int .i64 x.n) (.int .i64 0) (.int .i64 0) (.int .i64 0) (.string ⟨#[]⟩) (.int .u32 0) (.slice none 0 0) (.int .i64 0)
          have hgr : w1.grownBy _ (some b) := set8_grown (W := w1) (b := b) (.int .i64 x.n) (.int .i64 0) (.int .i64 0) (.int .i64 0) (.string ⟨#[]⟩) (.int .u32 0) (.slice none 0 0) (.int .i64 0)
          have HFIN := Lib.hid hfin
          have HGR := Lib.hid hgr
          have HB5 := Lib.hid hB5
          clear hfin hgr hB5 h5 h5r
          go_wp2_with fail
          have hfin := HFIN.out
          have hgr := HGR.out
          clear HFIN HGR d0 d1 d2 d3 d4 d5 d6 d7 e0 e1 e2 e3 e4 e5 e6 e7 g0 g1 g2 g3 g4 g5 g6 g7
          generalize ((((((((w1.setCell ⟨b, 0, none⟩ (.int .i64 x.n)).setCell ⟨b, 1, none⟩ (.int .i64 0)).setCell ⟨b, 2, none⟩ (.int .i64 0)).setCell ⟨b, 3, none⟩ (.int .i64 0)).setCell ⟨b, 4, none⟩ (.string ⟨#[]⟩)).setCell ⟨b, 5, none⟩ (.int .u32 0)).setCell ⟨b, 6, none⟩ (.slice none 0 0)).setCell ⟨b, 7, none⟩ (.int .i64 0)) = W at hfin hgr ⊢
          obtain ⟨⟨p0, p1, p2, p3, p4, p5, p6, p7⟩, _⟩ := box8 hfin
          have hWB : Below w.heap.size w W := by rw [HBB.out]; exact HB5.out.grown hgr (by have := HBB.out; have := HB5.out.size; omega) (fun k hk => by simp only [Option.some.injEq] at hk; omega)
          refine bodyPost_ret (v := .tuple #[.agg #[.int .i64 x.n, .int .i64 0, .int .i64 0, .int .i64 0, .string ⟨#[]⟩, .int .u32 0, .slice none 0 0, .int .i64 0], .bool false]) (by simp [results, Try.results25, go_sem, p0, p1, p2, p3, p4, p5, p6, p7]) rfl ⟨⟨x.n, zeroR, [], 0⟩, none, 0, 0, rfl, ?_, hWB⟩
          exact fun y hy => by cases hy

end Go.Proofs.Ytffehnojcajhiaa.Wire.Entry.U

namespace Go.Proofs.Ytffehnojcajhiaa.Wire.Entry.U
open Go Go.RowKit Go.Proofs.Ytffehnojcajhiaa.Law

theorem read_calls (l : List Item) (hs : nodesL l ≤ 4096) (v : Value) (w : World) (hI : Old w.heap.size w v l) : Calls Try.prog 25 #[v] w (RetEnt w (rdE l)) := by
  cases l with
  | nil => exact read_nil v w hI
  | cons x f => exact read_cons x f hs v w hI

theorem exec_ran {P : Program} {ops : Array Oper} {rest : List Oper} {o : Oper} {a : Act} {w w' : World} {Q : Exit → Act → World → Prop} (hgd : Region.wanted o (yielded ops a.tmps) = true) {v : Value}
    (hrun : (execOp a.eval o).run P w = .ok (.value v) w') (h : wpList P ops Q rest (a.put o.dst v) w') : wpList P ops Q (o :: rest) a w := by
  refine wpList_step fun K hK => ?_
  rw [if_pos hgd]
  unfold Oper.wp
  rw [hrun]
  exact hK _ _ h
theorem conv_ran {P : Program} {ρ : Operand → Value} {o : Oper} {w w' : World} {src dst : TypeId} {x : Operand} {xv v : Value} (hrun : (convert src dst xv).run P w = .ok v w') (ho : o.op = .convert src dst x := by rfl) (hx : ρ x = xv := by rfl) : (execOp ρ o).run P w = .ok (.value v) w' := by
  unfold execOp
  simp only [ho, hx, Sem.run_bind, Sem.run_pure, hrun, Result.andThen_ok]

theorem bw_below (w : World) (e : TypeId) (s : ByteArray) : Below w.heap.size w (Lib.bytesWorld w e s) :=
  ⟨rfl, rfl, rfl, by rw [Lib.bytesWorld_size]; omega, fun k hk => Lib.bytesWorld_at_old w e s k hk⟩
theorem bw_bytes (w : World) (s : ByteArray) : Bytes (Lib.bytesWorld w 5 s).heap.size (Lib.bytesWorld w 5 s) (.slice (some ⟨w.heap.size, 0, none⟩) s.size (grownCap w s.size 0 5)) (sb s) := by
  refine ⟨_, _, by rw [sb_length], by rw [sb_length]; exact grownCap_ge _ _ _ _, (fun h => by cases h), sb_lt s, fun _ => ⟨w.heap.size, 0, rfl, by rw [Lib.bytesWorld_size]; omega, fun j hj => ?_⟩⟩
  rw [sb_length] at hj
  rw [Nat.zero_add, Lib.bytesWorld_cell w _ s j hj]
  congr 2
  rw [List.getD, List.getD]
  unfold sb
  rw [List.getElem?_map]
  cases s.data.toList[j]? <;> rfl

theorem rdTop_err' : ∀ (f c : Nat) (bs : List Nat) (acc : List Item) (k : Nat), rdTop f c bs acc = .error k → k ≠ 0 := by
  intro f
  induction f with
  | zero => intro c bs acc k h; simp [rdTop] at h; omega
  | succ f ih =>
    intro c bs acc k h
    rw [rdTop] at h
    split at h
    · cases h
    · match hq : rdI 8 c bs with
      | .error e => rw [hq] at h; simp only [Except.error.injEq] at h; subst h; exact rdI_err _ _ _ _ hq
      | .ok (y, c2, r2) => rw [hq] at h; exact ih _ _ _ _ h
theorem decN_err' {bs : List Nat} {k : Nat} (h : decN bs = .error k) : k ≠ 0 := by
  unfold decN at h
  split at h
  · simp only [Except.error.injEq] at h; omega
  · exact rdTop_err' _ _ _ _ _ h

/-- What Decode answers. -/
def RetDec (w : World) (r : Option Ent) (e : Ending) (W : World) : Prop :=
  ∃ (x : Ent) (A : Option Addr) (n c : Nat), e = .returned (.tuple #[entV x (.slice A n c), .int .i64 (if r.isSome then 0 else 3)]) ∧ (∀ y, r = some y → x = y) ∧ (r = none → x = zeroE) ∧ OpsW (fun k => w.heap.size ≤ k ∧ k < W.heap.size) W (.slice A n c) x.ops ∧ Below w.heap.size w W

theorem retDec_none {w W : World} (hB : Below w.heap.size w W) : RetDec w none (.returned (.tuple #[entV zeroE (.slice none 0 0), .int .i64 3])) W :=
  ⟨zeroE, none, 0, 0, rfl, (fun y h => by cases h), (fun _ => rfl), OpsW.nil _ _, hB⟩

set_option maxRecDepth 100000 in
set_option maxHeartbeats 2000000 in
theorem decodeE_calls (s : ByteArray) (hlen : s.size ≤ 140737488351232) (w : World) : Calls Try.prog 13 #[.string s] w (RetDec w (decE (sb s))) := by
  obtain ⟨ro, hro⟩ : ∃ r, decE (sb s) = r := ⟨_, rfl⟩
  rw [hro]
  obtain ⟨b, hb⟩ : ∃ b, w.heap.size = b := ⟨_, rfl⟩
  have hcv := Lib.run_convert_string_bytes (P := Try.prog) (w.alloc Z8) 9 48 5 s Try.underlying9 Try.underlying48 Try.underlying5
  have hby := bw_bytes (w.alloc Z8) s
  have hbw : Below w.heap.size w (Lib.bytesWorld (w.alloc Z8) 5 s) := ((Below.refl _ _).alloc (Nat.le_refl _) Z8).trans ((bw_below (w.alloc Z8) 5 s).mono (by simp))
  have hbr : (Lib.bytesWorld (w.alloc Z8) 5 s).heap[b]? = some Z8 := by
    rw [← hb]
    exact ((bw_below (w.alloc Z8) 5 s).block w.heap.size (by simp)).trans (heap_alloc_new w _)
  have hsz : (Lib.bytesWorld (w.alloc Z8) 5 s).heap.size = b + 2 := by rw [Lib.bytesWorld_size]; simp [hb]
  rw [World.size_alloc, hb] at hcv hby
  generalize Lib.bytesWorld (w.alloc Z8) 5 s = w1 at hcv hby hbw hbr hsz
  generalize grownCap (w.alloc Z8) s.size 0 5 = gc at hcv hby
  have cD := decode_calls (sb s) (by rw [sb_length]; omega) _ w1 hby
  obtain ⟨⟨dl, de⟩, hD⟩ : ∃ R, decR (sb s) = R := ⟨_, rfl⟩
  rw [hD] at cD
  have CD := Lib.hid cD
  have HDD := Lib.hid hD
  have HCV := Lib.hid hcv
  have HBW := Lib.hid hbw
  have HBR := Lib.hid hbr
  have HSZ := Lib.hid hsz
  have HRO := Lib.hid hro
  have HBB := Lib.hid hb
  clear hcv hby hbw hbr hsz hro hlen hD cD
  go_enter Try.func13, Try.ntmps13
  go_wp2_with (refine exec_ran (o := ⟨some 10, _, _, _, _, _⟩) rfl (conv_ran HCV.out) ?_)
  refine CD.out.mono ?_
  rintro e w2 ⟨u, rfl, hB2, hI2⟩
  obtain ⟨Au, cu, rfl, _⟩ := hI2.form
  simp only at hI2 ⊢
  obtain ⟨n, hn⟩ : ∃ n, dl.length = n := ⟨_, rfl⟩
  rw [hn] at hI2 ⊢
  have hbr2 := (hB2.block b (by have := HSZ.out; omega)).trans HBR.out
  have hBw : Below w.heap.size w w2 := HBW.out.trans (hB2.mono (by have := HSZ.out; omega))
  have hs2 : b + 2 ≤ w2.heap.size := by have := hB2.size; have := HSZ.out; omega
  have HBR2 := Lib.hid hbr2
  have HB2 := Lib.hid hBw
  have HI2 := Lib.hid (Items.mono (fun k hk => hk.2) hI2 : Old w2.heap.size w2 (.slice Au n cu) dl)
  obtain ⟨⟨p0, p1, p2, p3, p4, p5, p6, p7⟩, z0, z1, z2, z3, z4, z5, z6, z7⟩ := box8 hbr2
  clear hB2 hI2 CD HCV hbr2 hBw hn HBR HBW
  match hq : decN (sb s) with
  | .error k =>
    have hR := HDD.out.symm.trans (show decR (sb s) = ([], k) by unfold decR; rw [hq]; rfl)
    simp only [Prod.mk.injEq] at hR
    obtain ⟨rfl, rfl⟩ := hR
    have hk0 : de ≠ 0 := decN_err' hq
    obtain rfl : ro = none := by rw [← HRO.out]; unfold decE; rw [hq]
    have hkI : ¬ (de : Int) = 0 := by omega
    clear hq hk0 HI2 p0 p1 p2 p3 p4 p5 p6 p7 z0 z1 z2 z3 z4 z5 z6 z7
    obtain ⟨⟨p0, p1, p2, p3, p4, p5, p6, p7⟩, z0, z1, z2, z3, z4, z5, z6, z7⟩ := box8 HBR2.out
    go_wp2_with fail
    have hfin := stored8 HBR2.out (.int .i64 0) (.int .i64 0) (.int .i64 0) (.int .i64 0) (.string ⟨#[]⟩) (.int .u32 0) (.slice none 0 0) (.int .i64 0)
    have hgr : w2.grownBy _ (some b) := set8_grown (W := w2) (b := b) (.int .i64 0) (.int .i64 0) (.int .i64 0) (.int .i64 0) (.string ⟨#[]⟩) (.int .u32 0) (.slice none 0 0) (.int .i64 0)
    clear p0 p1 p2 p3 p4 p5 p6 p7 z0 z1 z2 z3 z4 z5 z6 z7
    generalize ((((((((w2.setCell ⟨b, 0, none⟩ (.int .i64 0)).setCell ⟨b, 1, none⟩ (.int .i64 0)).setCell ⟨b, 2, none⟩ (.int .i64 0)).setCell ⟨b, 3, none⟩ (.int .i64 0)).setCell ⟨b, 4, none⟩ (.string ⟨#[]⟩)).setCell ⟨b, 5, none⟩ (.int .u32 0)).setCell ⟨b, 6, none⟩ (.slice none 0 0)).setCell ⟨b, 7, none⟩ (.int .i64 0)) = W at hfin hgr ⊢
    obtain ⟨⟨r0, r1, r2, r3, r4, r5, r6, r7⟩, _⟩ := box8 hfin
    have hWB : Below w.heap.size w W := HB2.out.grown hgr (by have := HB2.out.size; omega) (fun k hk => by simp only [Option.some.injEq] at hk; have := HBB.out; omega)
    exact bodyPost_ret (v := .tuple #[.agg #[.int .i64 0, .int .i64 0, .int .i64 0, .int .i64 0, .string ⟨#[]⟩, .int .u32 0, .slice none 0 0, .int .i64 0], .int .i64 3]) (by simp [results, Try.results13, go_sem, r0, r1, r2, r3, r4, r5, r6, r7]) rfl (retDec_none hWB)
  | .ok l =>
    have hR := HDD.out.symm.trans (show decR (sb s) = (l, 0) by unfold decR; rw [hq]; rfl)
    simp only [Prod.mk.injEq] at hR
    obtain ⟨rfl, rfl⟩ := hR
    have hback := dec_back (sb_lt s) hq
    have hro : ro = match rdE dl with | none => none | some e => if bP e.good = true then some e else none := by rw [← HRO.out]; unfold decE; rw [hq]; rfl
    have HRO2 := Lib.hid hro
    have CR := Lib.hid (read_calls dl hback.2.2 _ w2 HI2.out)
    have HWF : Hid (∀ e, rdE dl = some e → e.wf) := Lib.hid fun e he => dec_wf (sb_lt s) hq he
    obtain ⟨r, hr⟩ : ∃ r, rdE dl = r := ⟨_, rfl⟩
    rw [hr] at CR HRO2 HWF
    clear hback hq hro hr HI2 HRO p0 p1 p2 p3 p4 p5 p6 p7 z0 z1 z2 z3 z4 z5 z6 z7
    go_wp2_with fail
    refine CR.out.mono ?_
    rintro e w3 ⟨x, A1, n1, c1, rfl, hx, hB3⟩
    have hbr3 := (hB3.block b (by omega)).trans HBR2.out
    have hBw : Below w.heap.size w w3 := HB2.out.trans (hB3.mono (by have := HBB.out; omega))
    have hs3 : b + 2 ≤ w3.heap.size := by have := hB3.size; omega
    have hbr4 : (w3.alloc (.cells #[.int .i64 x.kind, .int .i64 x.r.p, .int .i64 x.r.q, .int .i64 x.r.a, .string x.r.key, .int .u32 (x.r.val : Nat), .slice A1 n1 c1, .int .i64 x.n] 29)).heap[b]? = some Z8 := (Below.heap_alloc w3 _ b (by omega)).trans hbr3
    have hB4 : Below w.heap.size w (w3.alloc (.cells #[.int .i64 x.kind, .int .i64 x.r.p, .int .i64 x.r.q, .int .i64 x.r.a, .string x.r.key, .int .u32 (x.r.val : Nat), .slice A1 n1 c1, .int .i64 x.n] 29)) := hBw.alloc (by have := HBB.out; omega) _
    have HBR4 := Lib.hid hbr4
    have HB4 := Lib.hid hB4
    have HX := Lib.hid hx
    have HB3 := Lib.hid hB3
    clear hB3 hbr3 hBw hbr4 hB4 hx CR HBR2 HB2
    cases r with
    | none =>
      obtain rfl : ro = none := HRO2.out
      have hbr5 : w3.heap[b]? = some Z8 := (Below.heap_alloc w3 (.cells #[.int .i64 x.kind, .int .i64 x.r.p, .int .i64 x.r.q, .int .i64 x.r.a, .string x.r.key, .int .u32 (x.r.val : Nat), .slice A1 n1 c1, .int .i64 x.n] 29) b (by omega)).symm.trans HBR4.out
      have hb3 : b < w3.heap.size := by omega
      obtain ⟨⟨p0, p1, p2, p3, p4, p5, p6, p7⟩, z0, z1, z2, z3, z4, z5, z6, z7⟩ := box8 hbr5
      have HBR5 := Lib.hid hbr5
      have HB3W : Hid (Below w.heap.size w w3) := Lib.hid ⟨HB4.out.os, HB4.out.tape, HB4.out.output, by have := HBB.out; omega, fun k hk => (Below.heap_alloc w3 (.cells #[.int .i64 x.kind, .int .i64 x.r.p, .int .i64 x.r.q, .int .i64 x.r.a, .string x.r.key, .int .u32 (x.r.val : Nat), .slice A1 n1 c1, .int .i64 x.n] 29) k (by have := HBB.out; omega)).symm.trans (HB4.out.block k hk)⟩
      clear hbr5
      go_wp2_with fail
      have hgr : w3.grownBy _ (some b) := set8_grown (W := w3) (b := b) (.int .i64 0) (.int .i64 0) (.int .i64 0) (.int .i64 0) (.string ⟨#[]⟩) (.int .u32 0) (.slice none 0 0) (.int .i64 0)
      have hfin : (((((((((w3.setCell ⟨b, 0, none⟩ (.int .i64 0)).setCell ⟨b, 1, none⟩ (.int .i64 0)).setCell ⟨b, 2, none⟩ (.int .i64 0)).setCell ⟨b, 3, none⟩ (.int .i64 0)).setCell ⟨b, 4, none⟩ (.string ⟨#[]⟩)).setCell ⟨b, 5, none⟩ (.int .u32 0)).setCell ⟨b, 6, none⟩ (.slice none 0 0)).setCell ⟨b, 7, none⟩ (.int .i64 0)).alloc (.cells #[.int .i64 x.kind, .int .i64 x.r.p, .int .i64 x.r.q, .int .i64 x.r.a, .string x.r.key, .int .u32 (x.r.val : Nat), .slice A1 n1 c1, .int .i64 x.n] 29)).heap[b]? = _ := (Below.heap_alloc _ _ b (Nat.lt_of_lt_of_le hb3 hgr.size)).trans (stored8 HBR5.out (.int .i64 0) (.int .i64 0) (.int .i64 0) (.int .i64 0) (.string ⟨#[]⟩) (.int .u32 0) (.slice none 0 0) (.int .i64 0))
      have hWB : Below w.heap.size w (((((((((w3.setCell ⟨b, 0, none⟩ (.int .i64 0)).setCell ⟨b, 1, none⟩ (.int .i64 0)).setCell ⟨b, 2, none⟩ (.int .i64 0)).setCell ⟨b, 3, none⟩ (.int .i64 0)).setCell ⟨b, 4, none⟩ (.string ⟨#[]⟩)).setCell ⟨b, 5, none⟩ (.int .u32 0)).setCell ⟨b, 6, none⟩ (.slice none 0 0)).setCell ⟨b, 7, none⟩ (.int .i64 0)).alloc (.cells #[.int .i64 x.kind, .int .i64 x.r.p, .int .i64 x.r.q, .int .i64 x.r.a, .string x.r.key, .int .u32 (x.r.val : Nat), .slice A1 n1 c1, .int .i64 x.n] 29)) := (HB3W.out.grown hgr (by have := HBB.out; omega) (fun k hk => by simp only [Option.some.injEq] at hk; have := HBB.out; omega)).alloc (Nat.le_trans (by have := HBB.out; omega) hgr.size) _
      clear hgr p0 p1 p2 p3 p4 p5 p6 p7 z0 z1 z2 z3 z4 z5 z6 z7
      generalize (((((((((w3.setCell ⟨b, 0, none⟩ (.int .i64 0)).setCell ⟨b, 1, none⟩ (.int .i64 0)).setCell ⟨b, 2, none⟩ (.int .i64 0)).setCell ⟨b, 3, none⟩ (.int .i64 0)).setCell ⟨b, 4, none⟩ (.string ⟨#[]⟩)).setCell ⟨b, 5, none⟩ (.int .u32 0)).setCell ⟨b, 6, none⟩ (.slice none 0 0)).setCell ⟨b, 7, none⟩ (.int .i64 0)).alloc (.cells #[.int .i64 x.kind, .int .i64 x.r.p, .int .i64 x.r.q, .int .i64 x.r.a, .string x.r.key, .int .u32 (x.r.val : Nat), .slice A1 n1 c1, .int .i64 x.n] 29)) = W at hfin hWB ⊢
      obtain ⟨⟨r0, r1, r2, r3, r4, r5, r6, r7⟩, _⟩ := box8 hfin
      exact bodyPost_ret (v := .tuple #[.agg #[.int .i64 0, .int .i64 0, .int .i64 0, .int .i64 0, .string ⟨#[]⟩, .int .u32 0, .slice none 0 0, .int .i64 0], .int .i64 3]) (by simp [results, Try.results13, go_sem, r0, r1, r2, r3, r4, r5, r6, r7]) rfl (retDec_none hWB)
    | some y =>
      obtain ⟨rfl, hop⟩ := HX.out y rfl
      have hwf := HWF.out x rfl
      obtain ⟨g, hg⟩ := exB x.good
      have hOP : OldO (w3.alloc (.cells #[.int .i64 x.kind, .int .i64 x.r.p, .int .i64 x.r.q, .int .i64 x.r.a, .string x.r.key, .int .u32 (x.r.val : Nat), .slice A1 n1 c1, .int .i64 x.n] 29)).heap.size (w3.alloc (.cells #[.int .i64 x.kind, .int .i64 x.r.p, .int .i64 x.r.q, .int .i64 x.r.a, .string x.r.key, .int .u32 (x.r.val : Nat), .slice A1 n1 c1, .int .i64 x.n] 29)) (.slice A1 n1 c1) x.ops := hop.toAt.keep (fun k hk => Below.heap_alloc w3 _ k hk.2) (fun k hk => by have := hk.2; simp; omega)
      have CG := Lib.hid (good_calls x hwf _ _ hOP g hg)
      have hEB := EBox.new w3 x (.slice A1 n1 c1)
      have HEB := Lib.hid hEB
      have HOP := Lib.hid hop
      have HG := Lib.hid hg
      clear hop hwf hOP hEB hg HX HWF
      go_wp2_with fail
      refine CG.out.mono ?_
      rintro e w5 ⟨rfl, hB5⟩
      have hs5 : w3.heap.size + 1 ≤ w5.heap.size := by have := hB5.size; simpa using this
      have hbr5 := (hB5.block b (by simp; omega)).trans HBR4.out
      have hBw5 : Below w.heap.size w w5 := HB4.out.trans (hB5.mono (by have := HB4.out.size; omega))
      have hE5 := HEB.out.low hB5
      have hop5 : OpsW (fun k => b + 2 ≤ k ∧ k < w5.heap.size) w5 (.slice A1 n1 c1) x.ops := HOP.out.keep (fun k hk => (hB5.block k (by have := hk.2; simp; omega)).trans (Below.heap_alloc w3 _ k hk.2)) (fun k hk => ⟨by have := hk.1; omega, by have := hk.2; omega⟩)
      have HBR5 := Lib.hid hbr5
      have HB5 := Lib.hid hBw5
      have HE5 := Lib.hid hE5
      have HOP5 := Lib.hid hop5
      clear hB5 hbr5 hBw5 hE5 hop5 CG HEB HOP HB3 HBR4 HB4
      cases g with
      | false =>
        obtain rfl : ro = none := by
          rw [HRO2.out]
          have : bP x.good = false := bP_false fun h => by have := HG.out.2 h; cases this
          rw [this]; rfl
        clear HG HRO2 HOP5 HE5
        obtain ⟨⟨p0, p1, p2, p3, p4, p5, p6, p7⟩, z0, z1, z2, z3, z4, z5, z6, z7⟩ := box8 HBR5.out
        go_wp2_with fail
        have hfin := stored8 HBR5.out (.int .i64 0) (.int .i64 0) (.int .i64 0) (.int .i64 0) (.string ⟨#[]⟩) (.int .u32 0) (.slice none 0 0) (.int .i64 0)
        have hgr : w5.grownBy _ (some b) := set8_grown (W := w5) (b := b) (.int .i64 0) (.int .i64 0) (.int .i64 0) (.int .i64 0) (.string ⟨#[]⟩) (.int .u32 0) (.slice none 0 0) (.int .i64 0)
        clear p0 p1 p2 p3 p4 p5 p6 p7 z0 z1 z2 z3 z4 z5 z6 z7
        generalize ((((((((w5.setCell ⟨b, 0, none⟩ (.int .i64 0)).setCell ⟨b, 1, none⟩ (.int .i64 0)).setCell ⟨b, 2, none⟩ (.int .i64 0)).setCell ⟨b, 3, none⟩ (.int .i64 0)).setCell ⟨b, 4, none⟩ (.string ⟨#[]⟩)).setCell ⟨b, 5, none⟩ (.int .u32 0)).setCell ⟨b, 6, none⟩ (.slice none 0 0)).setCell ⟨b, 7, none⟩ (.int .i64 0)) = W at hfin hgr ⊢
        obtain ⟨⟨r0, r1, r2, r3, r4, r5, r6, r7⟩, _⟩ := box8 hfin
        have hWB : Below w.heap.size w W := HB5.out.grown hgr (by have := HB5.out.size; omega) (fun k hk => by simp only [Option.some.injEq] at hk; have := HBB.out; omega)
        exact bodyPost_ret (v := .tuple #[.agg #[.int .i64 0, .int .i64 0, .int .i64 0, .int .i64 0, .string ⟨#[]⟩, .int .u32 0, .slice none 0 0, .int .i64 0], .int .i64 3]) (by simp [results, Try.results13, go_sem, r0, r1, r2, r3, r4, r5, r6, r7]) rfl (retDec_none hWB)
      | true =>
        obtain rfl : ro = some x := by
          rw [HRO2.out]
          have : bP x.good = true := bP_true (HG.out.1 rfl)
          rw [this]; rfl
        clear HG HRO2
        obtain ⟨⟨p0, p1, p2, p3, p4, p5, p6, p7⟩, z0, z1, z2, z3, z4, z5, z6, z7⟩ := box8 HBR5.out
        obtain ⟨f0, f1, f2, f3, f4, f5, f6, f7⟩ := HE5.out.cells
        go_wp2_with fail
        have hfin := stored8 HBR5.out (.int .i64 x.kind) (.int .i64 x.r.p) (.int .i64 x.r.q) (.int .i64 x.r.a) (.string x.r.key) (.int .u32 (x.r.val : Nat)) (.slice A1 n1 c1) (.int .i64 x.n)
        have hgr : w5.grownBy _ (some b) := set8_grown (W := w5) (b := b) (.int .i64 x.kind) (.int .i64 x.r.p) (.int .i64 x.r.q) (.int .i64 x.r.a) (.string x.r.key) (.int .u32 (x.r.val : Nat)) (.slice A1 n1 c1) (.int .i64 x.n)
        clear p0 p1 p2 p3 p4 p5 p6 p7 z0 z1 z2 z3 z4 z5 z6 z7 f0 f1 f2 f3 f4 f5 f6 f7
        generalize ((((((((w5.setCell ⟨b, 0, none⟩ (.int .i64 x.kind)).setCell ⟨b, 1, none⟩ (.int .i64 x.r.p)).setCell ⟨b, 2, none⟩ (.int .i64 x.r.q)).setCell ⟨b, 3, none⟩ (.int .i64 x.r.a)).setCell ⟨b, 4, none⟩ (.string x.r.key)).setCell ⟨b, 5, none⟩ (.int .u32 (x.r.val : Nat))).setCell ⟨b, 6, none⟩ (.slice A1 n1 c1)).setCell ⟨b, 7, none⟩ (.int .i64 x.n)) = W at hfin hgr ⊢
        obtain ⟨⟨r0, r1, r2, r3, r4, r5, r6, r7⟩, _⟩ := box8 hfin
        have hWB : Below w.heap.size w W := HB5.out.grown hgr (by have := HB5.out.size; omega) (fun k hk => by simp only [Option.some.injEq] at hk; have := HBB.out; omega)
        exact bodyPost_ret (v := .tuple #[entV x (.slice A1 n1 c1), .int .i64 0]) (by simp [results, Try.results13, go_sem, r0, r1, r2, r3, r4, r5, r6, r7]) rfl
          ⟨x, A1, n1, c1, rfl, (fun y h => Option.some.inj h), (fun h => by cases h), HOP5.out.keep (fun k hk => hgr.block k hk.2 (by simp only [ne_eq, Option.some.injEq]; have := hk.1; omega)) (fun k hk => ⟨by have := hk.1; have := HBB.out; omega, Nat.lt_of_lt_of_le hk.2 hgr.size⟩), hWB⟩

end Go.Proofs.Ytffehnojcajhiaa.Wire.Entry.U
