/-
  Put together out of texts of one chain: what they hold stands ahead of each.
-/
import Derived.Test.YtmegiilkcidanaaGDiskCopies20
import Derived.Deep.QuietTactic
import Derived.BigQuiet
import Derived.Deep.RegionWith
import Derived.Deep.RegionHeld3
import Derived.Test.YtmegiilkcidanaaHeldTail
import Derived.Test.YtmegiilkcidanaaGDiskCopies11
/-
  The walk of the document's disk's Crash.
-/
namespace Go.Proofs.Ytmegiilkcidanaa.Disk
open Go Go.RowKit Go.Sort Go.Lib Go.Proofs.Ytmegiilkcidanaa.Law

theorem set_far {x q : Nat} (W : World) (v : Value) (h : x ≠ q) (i j : Nat) : (W.setCell ⟨q, i, none⟩ v).cell? ⟨x, j, none⟩ = W.cell? ⟨x, j, none⟩ := by
  simp only [World.cell?, Below.heap_setCell W ⟨q, i, none⟩ v x h]
theorem behindR_zero (c : RChg) {p : Int} (hp : p ≤ 0) (o : Option (List Nat)) : behindR c p o = o := by
  unfold behindR
  split
  · rw [if_neg (by omega)]
  · split
    · rw [if_neg (by omega)]
    · rw [if_neg (by omega)]
theorem behind0 (c : RChg) (hk : c.kind = 0) (P : Nat) {p : Int} (hP : min p (c.data.length : Int) = P) (o : Option (List Nat)) (h : 0 < P) (h2 : c.pos ≤ szO o) : behindR c p o = some (overL (o.getD []) c.pos (c.data.take P)) := by
  unfold behindR
  rw [if_pos hk, if_pos ⟨by omega, h2⟩, hP, Int.toNat_natCast]
theorem behind0_no (c : RChg) (hk : c.kind = 0) {p : Int} (o : Option (List Nat)) (h : c.data.length = 0 ∨ szO o < c.pos) : behindR c p o = o := by
  unfold behindR
  rw [if_pos hk, if_neg (by omega)]
theorem behind1 (c : RChg) (hk : c.kind = 1) {p : Int} (hp : 0 < p) (o : Option (List Nat)) (h : c.pos < szO o) : behindR c p o = some ((o.getD []).take c.pos) := by
  unfold behindR
  rw [if_neg (by omega), if_pos hk, if_pos ⟨hp, h⟩]
theorem behind1_no (c : RChg) (hk : c.kind = 1) {p : Int} (o : Option (List Nat)) (h : ¬ c.pos < szO o) : behindR c p o = o := by
  unfold behindR
  rw [if_neg (by omega), if_pos hk, if_neg (by omega)]
theorem behind2 (c : RChg) (hk : 2 ≤ c.kind) {p : Int} (hp : 0 < p) (o : Option (List Nat)) : behindR c p o = none := by
  unfold behindR
  rw [if_neg (by omega), if_neg (by omega), if_pos hp]
theorem szO_some {o : Option (List Nat)} {n : Nat} (h : n < szO o) : o.isSome = true := by
  cases o with
  | none => simp [szO] at h
  | some b => rfl
theorem datF_get (l : List RF) (s : ByteArray) : getB l s = (datF l s).getD [] ∧ (getB l s).length = szO (datF l s) ∧ (getF l s).isSome = (datF l s).isSome := by
  unfold getB datF
  cases getF l s with
  | none => exact ⟨rfl, rfl, rfl⟩
  | some p => exact ⟨rfl, rfl, rfl⟩

/-- What Crash leaves. -/
def CrashO (w : World) (base q : Nat) (room : Int) (safe : List RF) (chs : List RC) (picks : List Int) (e : Ending) (W : World) : Prop :=
  e = .returned (.tuple #[]) ∧ ∃ l, RefD W base q room false l l [] ∧ SortedF l ∧ datF l = crashR picks chs (datF safe) chs.length ∧ l.length ≤ safe.length + chs.length ∧ FromB w.heap.size safe l ∧ RefK base q w W

theorem CrashAt.done {w W : World} {base q : Nat} {room : Int} {fails : Bool} {nv cv sv : Value} {now safe l : List RF} {chs : List RC} {picks : List Int} (h : CrashAt w base q room fails nv cv now safe chs picks chs.length W l sv) :
    CrashO w base q room safe chs picks (.returned (.tuple #[])) (((W.setCell ⟨q, 2, none⟩ sv).setCell ⟨q, 4, none⟩ (.slice none 0 0)).setCell ⟨q, 1, none⟩ (.bool false)) := by
  have hb := h.kept.le
  have r1 := rd_set2 h.rd sv
  have r2 := rd_set4 r1 (.slice none 0 0)
  have r3 := rd_set1 r2 false
  have f1 := files_set (u := sv) h.files h.rd 2
  have f2 := files_set (u := .slice none 0 0) f1 r1 4
  have f3 := files_set (u := .bool false) f2 r2 1
  have c3 := h.rd.cells.1.2.2.2.1
  have k1 := h.kept.put h.rd 2 sv fun g hg => by
    rcases h.kept.own 3 (by omega) (by omega) sv g c3 hg with ⟨j, v0, h2, h4, hiff, h5, h6⟩ | h5
    · exact .inl ⟨j, v0, h2, h4, by omega, h5, h6⟩
    · exact .inr h5
  have k2 := k1.put r1 4 (.slice none 0 0) fun g hg => by cases hg
  have k3 := k2.put r2 1 (.bool false) fun g hg => by cases hg
  exact ⟨rfl, l, ⟨hb, _, _, _, r3, f3, f3, ChsAt.nil _ _⟩, h.sorted, h.dat, h.len, h.from_, k3⟩

section
variable {w W : World} {base q k : Nat} {room : Int} {fails : Bool} {nv cv sv : Value} {now safe l : List RF} {chs : List RC} {picks : List Int}

/-- What a call that makes the next row of files leaves. -/
def Moved (w : World) (base q : Nat) (room : Int) (fails : Bool) (nv cv : Value) (now safe : List RF) (chs : List RC) (picks : List Int) (k F : Nat) (sv : Value) (W0 : World) (e : Ending) (W1 : World) : Prop :=
  ∃ A1 c1, e = .returned (.slice A1 F c1) ∧ Below W0.heap.size W0 W1 ∧ W1.cell? ⟨q, 3, none⟩ = some sv ∧ W1.frozen? ⟨q, 3, none⟩ = false ∧ q < W1.heap.size ∧ ∃ l', Hid (l'.length = F ∧ CrashAt w base q room fails nv cv now safe chs picks (k + 1) (W1.setCell ⟨q, 3, none⟩ (.slice A1 F c1)) l' (.slice A1 F c1))

theorem move_with (h : CrashAt w base q room fails nv cv now safe chs picks k W l sv) (hw : base ≤ w.heap.size) {c : RC} (hc : chs[k]? = some c) (hl : l.length ≤ 1000000) {W0 : World} (hB : Below W.heap.size W W0) {v : Value} {bs : List Nat} (hv : Buf W0 base 5 v bs)
    (hb : behindR c.1 (picks.getD k 0) (datF l c.1.name) = some bs) (hz : bs.length ≤ 1073741824) (ho : ∀ g, v.ownBlock = some g → (∃ p ∈ safe, p.2.ownBlock = some g) ∨ w.heap.size ≤ g) (F : Nat) (hF : (withF c.1.name ((c.1.name, bs), v) l).length = F) :
    Calls Try.prog 51 #[sv, .string c.1.name, v] W0 (Moved w base q room fails nv cv now safe chs picks k F sv W0) := by
  have hs := h.kept.low.size
  refine (refWith_calls sv v l hl c.1.name bs base W0 (Nat.le_trans hw (Nat.le_trans hs hB.size)) (h.files.below hB) hv).mono ?_
  rintro e W1 ⟨A1, c1, rfl, hf, hB1⟩
  rw [hF] at hf ⊢
  have hBB := hB.trans (hB1.mono hB.size)
  obtain ⟨⟨_, _, _, c3, _⟩, cz⟩ := (h.rd.below hBB).cells
  refine ⟨A1, c1, rfl, hB1, c3, cz 3, (h.rd.below hBB).lt, _, Lib.hid ⟨hF, h.turn hc hBB (hf.old hB.size) (withF_len _ _ _) (h.sorted.withF _ _ rfl) ?_ ?_ (h.from_.with_ _ _ _ ho)⟩⟩
  · rw [datF_with, hb]
  · rw [hb]; exact hz
theorem move_without (h : CrashAt w base q room fails nv cv now safe chs picks k W l sv) (hw : base ≤ w.heap.size) {c : RC} (hc : chs[k]? = some c) (hl : l.length ≤ 1000000) {W0 : World} (hB : Below W.heap.size W W0)
    (hb : behindR c.1 (picks.getD k 0) (datF l c.1.name) = none) (F : Nat) (hF : (l.filter (neN c.1.name)).length = F) :
    Calls Try.prog 53 #[sv, .string c.1.name] W0 (Moved w base q room fails nv cv now safe chs picks k F sv W0) := by
  have hs := h.kept.low.size
  refine (refWithout_calls sv l hl c.1.name base W0 (Nat.le_trans hw (Nat.le_trans hs hB.size)) (h.files.below hB)).mono ?_
  rintro e W1 ⟨A1, c1, rfl, hf, hB1⟩
  rw [hF] at hf ⊢
  have hBB := hB.trans (hB1.mono hB.size)
  obtain ⟨⟨_, _, _, c3, _⟩, cz⟩ := (h.rd.below hBB).cells
  refine ⟨A1, c1, rfl, hB1, c3, cz 3, (h.rd.below hBB).lt, _, Lib.hid ⟨hF, h.turn hc hBB (hf.old hB.size) (Nat.le_trans (List.length_filter_le _ _) (Nat.le_succ _)) (h.sorted.filter _) ?_ ?_ (h.from_.without_ _)⟩⟩
  · rw [datF_without, hb]
  · rw [hb]; exact Nat.zero_le _
end

set_option maxRecDepth 100000 in
set_option maxHeartbeats 8000000 in
theorem refCrash_calls (w : World) (base q : Nat) (hbase : base ≤ w.heap.size) (room : Int) (fails : Bool) (now safe : List RF) (hsafe : safe.length ≤ 100000) (chs : List RC) (hchs : chs.length ≤ 100000) (h : RefD w base q room fails now safe chs) (hsort : SortedF safe) (hsz : ∀ s, szO (datF safe s) ≤ 1073741824)
    (hcs : ∀ c ∈ chs, c.1.pos + c.1.data.length ≤ 1073741824) (pv : Value) (picks : List Int) (hp : Ints (fun b => b < base) w pv picks) :
    Calls Try.prog 34 #[.pointer (some ⟨q, 0, none⟩), pv] w (CrashO w base q room safe chs picks) := by
  have hkeep := h.keep
  obtain ⟨hb, nv, sv, cv, h1, h2, h3, h4⟩ := h
  have HI : Hid (CrashAt w base q room fails nv cv now safe chs picks 0 w safe sv) := Lib.hid ⟨h1, h3, h2, h4, Nat.le_refl _, hsort, rfl, hsz, fun p hp g hg => .inl ⟨p, hp, hg⟩, hkeep⟩
  have HDONE : Hid (∀ W l sv, CrashAt w base q room fails nv cv now safe chs picks chs.length W l sv → CrashO w base q room safe chs picks (.returned (.tuple #[])) (((W.setCell ⟨q, 2, none⟩ sv).setCell ⟨q, 4, none⟩ (.slice none 0 0)).setCell ⟨q, 1, none⟩ (.bool false))) := Lib.hid fun W l sv h => h.done
  obtain ⟨cA, cc, rfl⟩ := h4.form
  obtain ⟨sA0, sc0, rfl⟩ := h3.form
  obtain ⟨PA, pc, rfl, hplc, hpc⟩ := id hp
  obtain ⟨N, hN⟩ : ∃ N, chs.length = N := ⟨_, rfl⟩
  obtain ⟨pl, hpl⟩ : ∃ N, picks.length = N := ⟨_, rfl⟩
  have HN := Lib.hid hN
  have HCS := Lib.hid hcs
  rw [hN] at HI HDONE hchs
  rw [hpl] at hplc hpc ⊢
  have HPC := Lib.hid hpc
  have HPL := Lib.hid hpl
  have HBS := Lib.hid hbase
  clear h1 h2 h3 h4 hp hpc hkeep hsort hsz hcs hN hpl
  go_enter Try.func34, Try.ntmps34
  go_wp2_with fail
  go_loopw [4] (fun i wr => ∃ (k n : Nat) (l : List RF) (sA : Option Addr) (sc : Nat), i = .int .i64 k ∧ k ≤ N ∧ Hid (l.length = n ∧ CrashAt w base q room fails nv (.slice cA N cc) now safe chs picks k wr l (.slice sA n sc))) (fun i _ => N - (intOf i).toNat)
  case atStart => exact ⟨0, _, safe, sA0, sc0, rfl, Nat.zero_le _, Lib.hid ⟨rfl, HI.out⟩⟩
  case round =>
    obtain ⟨k, n, l, sA, sc, rfl, hk, HCC⟩ := hrel
    have HC := Lib.hid HCC.out.2
    have HLN := Lib.hid HCC.out.1
    clear HCC
    obtain ⟨s3, hs3⟩ : ∃ v, Value.slice sA n sc = v := ⟨_, rfl⟩
    rw [hs3] at HC
    obtain ⟨⟨_, _, _, q3, q4⟩, qz⟩ := HC.out.rd.cells
    have hql := HC.out.rd.lt
    by_cases hlt : k < N
    · have hkc : k < chs.length := by rw [HN.out]; exact hlt
      obtain ⟨hnc, g, rfl, hg, c0, c1, c2, c3⟩ := HC.out.chsAt.cell hkc
      have hcm : chs[k] ∈ chs := List.getElem_mem _
      have hbf := HC.out.chsAt.2 _ hcm
      have hcsk := HCS.out _ hcm
      have hck : chs[k]? = some chs[k] := List.getElem?_eq_getElem _
      obtain ⟨c, hc⟩ : ∃ c, chs[k] = c := ⟨_, rfl⟩
      rw [hc] at c0 c1 c2 c3 hbf hcsk hck
      obtain ⟨dA, dc, hdv, hdc⟩ := hbf.form
      obtain ⟨dl, hdl⟩ : ∃ n, c.1.data.length = n := ⟨_, rfl⟩
      rw [hdl] at hdv hcsk hdc
      rw [hdv] at c3 hbf
      obtain ⟨wb, hwb⟩ : ∃ wb, wr.alloc (.cells #[.int .i64 (c.1.kind : Nat), .string c.1.name, .int .i64 (c.1.pos : Nat), .slice dA dl dc] 97) = wb := ⟨_, rfl⟩
      have hbb : Below wr.heap.size wr wb := by rw [← hwb]; exact (Below.refl _ _).alloc (Nat.le_refl _) _
      have hob : wb.heap[wr.heap.size]? = some (.cells #[.int .i64 (c.1.kind : Nat), .string c.1.name, .int .i64 (c.1.pos : Nat), .slice dA dl dc] 97 (0, 0)) := by rw [← hwb]; simp only [World.alloc, Array.getElem?_push_size]
      have hbl : wr.heap.size < wb.heap.size := (Array.getElem?_eq_some_iff.1 hob).1
      have HCB := Lib.hid (HC.out.below hbb)
      obtain ⟨x, hx⟩ : ∃ x, wr.heap.size = x := ⟨_, rfl⟩
      rw [hx] at hob hbl
      have b0 : wb.cell? ⟨x, 0, none⟩ = some (.int .i64 (c.1.kind : Nat)) := by simp [World.cell?, hob]
      have b1 : wb.cell? ⟨x, 1, none⟩ = some (.string c.1.name) := by simp [World.cell?, hob]
      have b2 : wb.cell? ⟨x, 2, none⟩ = some (.int .i64 (c.1.pos : Nat)) := by simp [World.cell?, hob]
      have b3 : wb.cell? ⟨x, 3, none⟩ = some (.slice dA dl dc) := by simp [World.cell?, hob]
      have hbufb := hbf.below hbb
      -- the name's bytes
      have hgl := HCB.out.files
      obtain ⟨hg1, hg2, hg3⟩ := datF_get l c.1.name
      obtain ⟨L, hL⟩ : ∃ L, szO (datF l c.1.name) = L := ⟨_, rfl⟩
      obtain ⟨tn, htn⟩ : ∃ t, (datF l c.1.name).isSome = t := ⟨_, rfl⟩
      have hvb := getV_buf (s := c.1.name) hgl
      obtain ⟨bA, bc, hbv, hbc⟩ := hvb.form
      rw [hg2, hL] at hbv hbc
      have hLs := HCB.out.size c.1.name
      rw [hL] at hLs
      have CG : Hid (∀ W0, (W0 = wb ∨ ∃ n, W0 = wb.drewN n) → Calls Try.prog 37 #[s3, .string c.1.name] W0 fun e W => e = .returned (.tuple #[.slice bA L bc, .bool tn]) ∧ W = W0) := Lib.hid fun W0 h0 => by
        have hB : Below wb.heap.size wb W0 := by
          have h := Below.refl wb.heap.size wb
          obtain rfl | ⟨n, rfl⟩ := h0
          · exact h
          · exact ⟨h.os, h.tape, h.output, h.size, h.block⟩
        refine (refGet_calls s3 l (by have := HCB.out.len; omega) c.1.name base W0 (hgl.below hB)).mono ?_
        rintro e W ⟨rfl, rfl⟩
        exact ⟨by rw [hbv, hg3, htn], rfl⟩
      have HBD : Hid (∀ n, Below wb.heap.size wb (wb.drewN n)) := Lib.hid fun n => by
        have h := Below.refl wb.heap.size wb
        exact ⟨h.os, h.tape, h.output, h.size, h.block⟩
      obtain ⟨⟨_, _, _, r3, r4⟩, rz⟩ := HCB.out.rd.cells
      have hqlb := HCB.out.rd.lt
      have hkI : (k : Int) < (N : Int) := by omega
      have hncI : (N : Int) ≤ (cc : Int) := by omega
      have HBD2 : Hid (∀ n, Below wb.heap.size wb (wb.drewN n).drew) := Lib.hid fun n => (HBD.out n).drew
      have HWB := Lib.hid hwb
      have HSKIP : Hid (behindR c.1 (picks.getD k 0) (datF l c.1.name) = datF l c.1.name → ∀ W, Below wb.heap.size wb W → CrashAt w base q room fails nv (.slice (some ⟨g, 0, none⟩) N cc) now safe chs picks (k + 1) W l s3) := Lib.hid fun hb W hB => (HCB.out.below hB).skip hck hb
      have hgb : g < wb.heap.size := Nat.lt_of_lt_of_le hg hbb.size
      obtain ⟨z, hz⟩ : ∃ z, picks.getD k 0 = z := ⟨_, rfl⟩
      have hl6 : l.length ≤ 1000000 := by have := HCB.out.len; omega
      have HMW : Hid (∀ W0 v bs F, Below wb.heap.size wb W0 → Buf W0 base 5 v bs → behindR c.1 z (datF l c.1.name) = some bs → bs.length ≤ 1073741824 → (∀ g, v.ownBlock = some g → (∃ p ∈ safe, p.2.ownBlock = some g) ∨ w.heap.size ≤ g) → (withF c.1.name ((c.1.name, bs), v) l).length = F → Calls Try.prog 51 #[s3, .string c.1.name, v] W0 (Moved w base q room fails nv (.slice (some ⟨g, 0, none⟩) N cc) now safe chs picks k F s3 W0)) := Lib.hid fun W0 v bs F hB hv hb hsz ho hF =>
        move_with HCB.out HBS.out hck hl6 hB hv (by rw [hz]; exact hb) hsz ho F hF
      have HMO : Hid (∀ W0 F, Below wb.heap.size wb W0 → behindR c.1 z (datF l c.1.name) = none → (l.filter (neN c.1.name)).length = F → Calls Try.prog 53 #[s3, .string c.1.name] W0 (Moved w base q room fails nv (.slice (some ⟨g, 0, none⟩) N cc) now safe chs picks k F s3 W0)) := Lib.hid fun W0 F hB hb hF =>
        move_without HCB.out HBS.out hck hl6 hB (by rw [hz]; exact hb) F hF
      have HFROM : Hid (∀ g, (Value.slice bA L bc).ownBlock = some g → (∃ p ∈ safe, p.2.ownBlock = some g) ∨ w.heap.size ≤ g) := Lib.hid fun g' hg' => by
        rw [← hbv] at hg'
        unfold getV at hg'
        rcases getF_cases l c.1.name with ⟨e1, _⟩ | ⟨i, hi, e1, _⟩
        · rw [e1] at hg'; cases hg'
        · rw [e1] at hg'
          exact HCB.out.from_ _ (List.getElem_mem _) g' hg'
      have HOLD : Hid (Buf wb base 5 (.slice bA L bc) (getB l c.1.name)) := Lib.hid (by rw [← hbv]; exact hvb)
      have HDAT : Hid (Buf wb base 5 (.slice dA dl dc) c.1.data) := Lib.hid hbufb
      have HGB := Lib.hid hg1
      have HLD := Lib.hid hL
      have HTN := Lib.hid htn
      have HGL : Hid ((getB l c.1.name).length = L) := Lib.hid (by rw [hg2, hL])
      rw [hz] at HSKIP
      have hpick : Hid (∀ W, Below wb.heap.size wb W → k < pl → ∃ pb po, PA = some ⟨pb, po, none⟩ ∧ W.cell? ⟨pb, po + k, none⟩ = some (.int .i64 z) ∧ pb < W.heap.size) := Lib.hid fun W hB hkp => by
        obtain ⟨pb, po, rfl, hpb, hcell⟩ := HPC.out (by omega)
        have h1 := hcell k (by have := HPL.out; omega)
        rw [hz] at h1
        have hlow : Below base w W := HCB.out.kept.low.trans (hB.mono (Nat.le_trans HBS.out HCB.out.kept.low.size))
        exact ⟨pb, po, rfl, (hlow.cell (p := ⟨pb, po + k, none⟩) hpb).trans h1, Nat.lt_of_lt_of_le hpb (Nat.le_trans HBS.out hlow.size)⟩
      have hdl0 : ¬ (dl : Int) < 0 := by omega
      have hxq : x ≠ q := by omega
      subst hs3
      clear hbb hob hwb HC HI hbv hvb hg1 hg2 hg3 hbf hbufb hL htn hck hcm hc hgl hl6 hdv hkc
      go_upto_region 4 with fail
      rw [HWB.out]
      clear HWB c0 c1 c2 c3 q3 q4
      have HB1 := HBD
      by_cases hpk : k < pl ∧ 0 < z
      · obtain ⟨hkp, hz0⟩ := hpk
        obtain ⟨pb, po, rfl, hpcell, hpb⟩ := hpick.out wb (Below.refl _ _) hkp
        have hkpI : (k : Int) < (pl : Int) := by omega
        have hplI : (pl : Int) ≤ (pc : Int) := by omega
        obtain ⟨Z, rfl⟩ : ∃ n : Nat, z = (n : Int) := ⟨z.toNat, by omega⟩
        have hZ : 0 < Z := by omega
        go_wp2_with fail
        go_quiet ((go_at_call 37; exact Calls.quiet_of_same (CG.out _ (.inr ⟨_, rfl⟩))))
        have HBN := HBD.out nq
        rcases (show c.1.kind = 0 ∨ c.1.kind = 1 ∨ 2 ≤ c.1.kind by omega) with hk0 | hk1 | hk2
        · rw [hk0] at b0
          rcases (show dl = 0 ∨ (0 < dl ∧ L < c.1.pos) ∨ (0 < dl ∧ c.1.pos ≤ L) by omega) with hd0 | ⟨hd0, hpL⟩ | ⟨hd0, hpL⟩
          · have HK2 := Lib.hid (HSKIP.out (behind0_no _ hk0 _ (.inl (by omega))) _ HBN)
            subst hd0
            have i1 : ((0 : Nat) : Int) < (Z : Int) := by omega
            clear HMW HMO
            go_wp2_with fail
            go_roundw
            case rel => exact ⟨k + 1, n, l, sA, sc, by go_num, by omega, Lib.hid ⟨HLN.out, HK2.out⟩⟩
            case measure => simp [intOf]; omega
          · have HK2 := Lib.hid (HSKIP.out (behind0_no _ hk0 _ (.inr (by rw [HLD.out]; exact hpL))) _ HBN)
            have i2 : ¬ (c.1.pos : Int) ≤ (L : Int) := by omega
            clear HMW HMO
            by_cases hZd : dl < Z
            · have i1 : (dl : Int) < (Z : Int) := by omega
              have i3 : ¬ (dl : Int) = 0 := by omega
              go_wp2_with fail
              go_roundw
              case rel => exact ⟨k + 1, n, l, sA, sc, by go_num, by omega, Lib.hid ⟨HLN.out, HK2.out⟩⟩
              case measure => simp [intOf]; omega
            · have i1 : ¬ (dl : Int) < (Z : Int) := by omega
              have i3 : ¬ (Z : Int) = 0 := by omega
              go_wp2_with fail
              go_roundw
              case rel => exact ⟨k + 1, n, l, sA, sc, by go_num, by omega, Lib.hid ⟨HLN.out, HK2.out⟩⟩
              case measure => simp [intOf]; omega
          · obtain ⟨P, hP⟩ : ∃ P : Nat, min (Z : Int) (c.1.data.length : Int) = (P : Int) := ⟨min Z dl, by omega⟩
            have hbe := behind0 c.1 hk0 P hP (datF l c.1.name) (by omega) (by rw [HLD.out]; exact hpL)
            rw [← HGB.out] at hbe
            have hPd : P ≤ c.1.data.length := by omega
            have HDP := Lib.hid (buf_front HDAT.out P hPd)
            obtain ⟨out, hout⟩ : ∃ out, overL (getB l c.1.name) c.1.pos (c.1.data.take P) = out := ⟨_, rfl⟩
            obtain ⟨E, hE⟩ : ∃ E, out.length = E := ⟨_, rfl⟩
            have hE2 : out.length ≤ 1073741824 := by
              rw [← hout, overL_length _ _ (by rw [HGL.out]; exact hpL), HGL.out, List.length_take]
              omega
            rw [hout] at hbe
            have CO : Hid (∀ W0, Below wb.heap.size wb W0 → Calls Try.prog 52 #[.slice bA L bc, .int .i64 (c.1.pos : Nat), .slice dA P dc] W0 fun e W => ∃ A c', e = .returned (.slice A E c') ∧ Hid (Buf W base 5 (.slice A E c') out ∧ Below wb.heap.size wb W ∧ ∀ g, (Value.slice A E c').ownBlock = some g → (∃ p ∈ safe, p.2.ownBlock = some g) ∨ w.heap.size ≤ g)) := Lib.hid fun W0 h0 => by
              have hbw : base ≤ wb.heap.size := Nat.le_trans HBS.out HCB.out.kept.low.size
              refine (refOver_calls (.slice bA L bc) (.slice dA P dc) (getB l c.1.name) (c.1.data.take P) c.1.pos (by rw [HGL.out]; exact hpL) (by rw [HGL.out]; omega) (by rw [List.length_take]; omega) W0 ((HOLD.out.below h0).bytes) ((HDP.out.below h0).bytes)).mono ?_
              rintro e W ⟨A, c', rfl, hO, hB⟩
              rw [hout, hE] at hO ⊢
              exact ⟨A, c', rfl, Lib.hid ⟨(Buf.of_own hO).lower (Nat.le_trans hbw h0.size), h0.trans (hB.mono h0.size), fun g hg => .inr (Nat.le_trans HCB.out.kept.low.size (Nat.le_trans h0.size (row_new hO.1 g hg)))⟩⟩
            have HMP := Lib.hid (fun W0 v F hB hv ho hF => HMW.out W0 v out F hB hv hbe hE2 ho hF)
            have i2 : (c.1.pos : Int) ≤ (L : Int) := by omega
            clear hbe hout hE hE2 HMW HMO HSKIP HDP HDAT HOLD HGB HGL HFROM
            by_cases hZd : dl < Z
            · obtain rfl : P = dl := by omega
              have i1 : (P : Int) < (Z : Int) := by omega
              have i3 : ¬ (P : Int) = 0 := by omega
              have i4 : (P : Int) ≤ (dc : Int) := by omega
              go_wp2_with fail
              refine wp_region_noPanic ?_
              refine wp_region_held_tail (C := fun w' => w'.cell? ⟨q, 3, none⟩ = some (.slice sA n sc) ∧ w'.cell? ⟨x, 1, none⟩ = some (.string c.1.name) ∧ w'.cell? ⟨x, 2, none⟩ = some (.int .i64 (c.1.pos : Nat)) ∧ w'.cell? ⟨x, 3, none⟩ = some (.slice dA P dc)) [0, 1, 2, 3, 4, 5, 6, 7, 8, 9, 10, 11, 12, 13] [14, 15, 16, 17, 18] 18 (by kernel_rfl) (by kernel_rfl) (fun _ _ _ _ _ h => h) ?_ ?_
              · go_keep
              iterate 14
                refine heldI_step (v := ?_) rfl (by rfl) (fun w' hw' => ?_) ?_
                rotate_left
                · obtain ⟨k0, k1, k2, k3⟩ := hw'
                  go_simp
                  all_goals with_reducible rfl
                simp only [Act.put, List.setIfInBounds_toArray]
              refine heldI_nil ?_
              refine seqI_step rfl ?_
              go_wp2_with (go_at_call 52; ((with_reducible refine (CO.out _ (by first | exact HBD.out _ | exact HBD2.out _)).mono ?_); rintro e W1 ⟨A0, c0', rfl, HO⟩; have o3 := (HCB.out.rd.below HO.out.2.1).cells.1.2.2.2.1; have o1 := (HO.out.2.1.cell (p := ⟨x, 1, none⟩) hbl).trans b1; have o2 := (HO.out.2.1.cell (p := ⟨x, 2, none⟩) hbl).trans b2; have o4 := (HO.out.2.1.cell (p := ⟨x, 3, none⟩) hbl).trans b3; have ol := Nat.lt_of_lt_of_le hbl HO.out.2.1.size))
              refine ⟨⟨o3, o1, o2, o4⟩, ?_⟩
              refine seqI_step rfl ?_
              obtain ⟨F, hF⟩ : ∃ F, (withF c.1.name ((c.1.name, out), .slice A0 E c0') l).length = F := ⟨_, rfl⟩
              go_wp2_with (go_at_call 51; ((with_reducible refine (HMP.out _ _ F HO.out.2.1 HO.out.1 HO.out.2.2 hF).mono ?_); rintro e W5 ⟨A1, c1', rfl, aB, a3, a3f, a3l, l', HW⟩; have p1 := (aB.cell (p := ⟨x, 1, none⟩) ol).trans o1; have p2 := (aB.cell (p := ⟨x, 2, none⟩) ol).trans o2; have p4 := (aB.cell (p := ⟨x, 3, none⟩) ol).trans o4; clear HO hF aB))
              refine ⟨⟨a3, p1, p2, p4⟩, ?_⟩
              refine seqI_step rfl ?_
              go_wp2_with fail
              refine ⟨⟨a3, p1, p2, p4⟩, ?_⟩
              refine seqI_step rfl ?_
              go_wp2_with fail
              refine ⟨⟨a3, p1, p2, p4⟩, ?_⟩
              refine seqI_last rfl ?_
              go_wp2_with fail
              refine NoPanic.normal ?_
              all_goals
                go_wp2_with fail
                go_roundw
                case rel => exact ⟨k + 1, _, l', A1, c1', by go_num, by omega, HW⟩
                case measure => simp [intOf]; omega
            · obtain rfl : P = Z := by omega
              have i1 : ¬ (dl : Int) < (P : Int) := by omega
              have i3 : ¬ (P : Int) = 0 := by omega
              have i4 : (P : Int) ≤ (dc : Int) := by omega
              go_wp2_with fail
              refine wp_region_noPanic ?_
              refine wp_region_held_tail (C := fun w' => w'.cell? ⟨q, 3, none⟩ = some (.slice sA n sc) ∧ w'.cell? ⟨x, 1, none⟩ = some (.string c.1.name) ∧ w'.cell? ⟨x, 2, none⟩ = some (.int .i64 (c.1.pos : Nat)) ∧ w'.cell? ⟨x, 3, none⟩ = some (.slice dA dl dc)) [0, 1, 2, 3, 4, 5, 6, 7, 8, 9, 10, 11, 12, 13] [14, 15, 16, 17, 18] 18 (by kernel_rfl) (by kernel_rfl) (fun _ _ _ _ _ h => h) ?_ ?_
              · go_keep
              iterate 14
                refine heldI_step (v := ?_) rfl (by rfl) (fun w' hw' => ?_) ?_
                rotate_left
                · obtain ⟨k0, k1, k2, k3⟩ := hw'
                  go_simp
                  all_goals with_reducible rfl
                simp only [Act.put, List.setIfInBounds_toArray]
              refine heldI_nil ?_
              refine seqI_step rfl ?_
              go_wp2_with (go_at_call 52; ((with_reducible refine (CO.out _ (by first | exact HBD.out _ | exact HBD2.out _)).mono ?_); rintro e W1 ⟨A0, c0', rfl, HO⟩; have o3 := (HCB.out.rd.below HO.out.2.1).cells.1.2.2.2.1; have o1 := (HO.out.2.1.cell (p := ⟨x, 1, none⟩) hbl).trans b1; have o2 := (HO.out.2.1.cell (p := ⟨x, 2, none⟩) hbl).trans b2; have o4 := (HO.out.2.1.cell (p := ⟨x, 3, none⟩) hbl).trans b3; have ol := Nat.lt_of_lt_of_le hbl HO.out.2.1.size))
              refine ⟨⟨o3, o1, o2, o4⟩, ?_⟩
              refine seqI_step rfl ?_
              obtain ⟨F, hF⟩ : ∃ F, (withF c.1.name ((c.1.name, out), .slice A0 E c0') l).length = F := ⟨_, rfl⟩
              go_wp2_with (go_at_call 51; ((with_reducible refine (HMP.out _ _ F HO.out.2.1 HO.out.1 HO.out.2.2 hF).mono ?_); rintro e W5 ⟨A1, c1', rfl, aB, a3, a3f, a3l, l', HW⟩; have p1 := (aB.cell (p := ⟨x, 1, none⟩) ol).trans o1; have p2 := (aB.cell (p := ⟨x, 2, none⟩) ol).trans o2; have p4 := (aB.cell (p := ⟨x, 3, none⟩) ol).trans o4; clear HO hF aB))
              refine ⟨⟨a3, p1, p2, p4⟩, ?_⟩
              refine seqI_step rfl ?_
              go_wp2_with fail
              refine ⟨⟨a3, p1, p2, p4⟩, ?_⟩
              refine seqI_step rfl ?_
              go_wp2_with fail
              refine ⟨⟨a3, p1, p2, p4⟩, ?_⟩
              refine seqI_last rfl ?_
              go_wp2_with fail
              refine NoPanic.normal ?_
              all_goals
                go_wp2_with fail
                go_roundw
                case rel => exact ⟨k + 1, _, l', A1, c1', by go_num, by omega, HW⟩
                case measure => simp [intOf]; omega
        · rw [hk1] at b0
          by_cases hpL : c.1.pos < L
          · have htt : tn = true := by rw [← HTN.out]; exact szO_some (by rw [HLD.out]; exact hpL)
            subst htt
            have hbe := behind1 c.1 hk1 hz0 (datF l c.1.name) (by rw [HLD.out]; exact hpL)
            rw [← HGB.out] at hbe
            have HFR := Lib.hid (buf_front HOLD.out c.1.pos (by rw [HGL.out]; omega))
            have hE2 : ((getB l c.1.name).take c.1.pos).length ≤ 1073741824 := by rw [List.length_take]; omega
            obtain ⟨F, hF⟩ : ∃ F, (withF c.1.name ((c.1.name, (getB l c.1.name).take c.1.pos), .slice bA c.1.pos bc) l).length = F := ⟨_, rfl⟩
            have HMP := Lib.hid (fun W0 (hB : Below wb.heap.size wb W0) => HMW.out W0 (.slice bA c.1.pos bc) _ F hB (HFR.out.below hB) hbe hE2 (fun g hg => HFROM.out g ((own_any bA L bc c.1.pos bc).trans hg)) hF)
            have i1 : (c.1.pos : Int) < (L : Int) := by omega
            have i2 : (c.1.pos : Int) ≤ (bc : Int) := by omega
            have i3 : ¬ (Z : Int) = 0 := by omega
            clear hbe hF hE2 HMW HMO HSKIP HDAT HOLD HGB HGL HFROM HFR
            by_cases hZd : dl < Z
            · have i4 : (dl : Int) < (Z : Int) := by omega
              go_wp2_with fail
              refine wp_region_noPanic ?_
              refine wp_region_held_tail (C := fun w' => w'.cell? ⟨q, 3, none⟩ = some (.slice sA n sc) ∧ w'.cell? ⟨x, 1, none⟩ = some (.string c.1.name) ∧ w'.cell? ⟨x, 2, none⟩ = some (.int .i64 (c.1.pos : Nat))) [0, 1, 2, 3, 4, 5, 6, 7, 8, 9, 10] [11, 12, 13, 14] 14 (by kernel_rfl) (by kernel_rfl) (fun _ _ _ _ _ h => h) ?_ ?_
              · go_keep
              iterate 11
                refine heldI_step (v := ?_) rfl (by rfl) (fun w' hw' => ?_) ?_
                rotate_left
                · obtain ⟨k0, k1, k2⟩ := hw'
                  go_simp
                  all_goals with_reducible rfl
                simp only [Act.put, List.setIfInBounds_toArray]
              refine heldI_nil ?_
              refine seqI_step rfl ?_
              go_wp2_with (go_at_call 51; ((with_reducible refine (HMP.out _ (by first | exact HBD.out _ | exact HBD2.out _)).mono ?_); rintro e W5 ⟨A1, c1', rfl, aB, a3, a3f, a3l, l', HW⟩; have p1 := (aB.cell (p := ⟨x, 1, none⟩) hbl).trans b1; have p2 := (aB.cell (p := ⟨x, 2, none⟩) hbl).trans b2; clear aB))
              refine ⟨⟨a3, p1, p2⟩, ?_⟩
              refine seqI_step rfl ?_
              go_wp2_with fail
              refine ⟨⟨a3, p1, p2⟩, ?_⟩
              refine seqI_step rfl ?_
              go_wp2_with fail
              refine ⟨⟨a3, p1, p2⟩, ?_⟩
              refine seqI_last rfl ?_
              go_wp2_with fail
              refine NoPanic.normal ?_
              all_goals
                go_wp2_with fail
                go_roundw
                case rel => exact ⟨k + 1, _, l', A1, c1', by go_num, by omega, HW⟩
                case measure => simp [intOf]; omega
            · have i4 : ¬ (dl : Int) < (Z : Int) := by omega
              go_wp2_with fail
              refine wp_region_noPanic ?_
              refine wp_region_held_tail (C := fun w' => w'.cell? ⟨q, 3, none⟩ = some (.slice sA n sc) ∧ w'.cell? ⟨x, 1, none⟩ = some (.string c.1.name) ∧ w'.cell? ⟨x, 2, none⟩ = some (.int .i64 (c.1.pos : Nat))) [0, 1, 2, 3, 4, 5, 6, 7, 8, 9, 10] [11, 12, 13, 14] 14 (by kernel_rfl) (by kernel_rfl) (fun _ _ _ _ _ h => h) ?_ ?_
              · go_keep
              iterate 11
                refine heldI_step (v := ?_) rfl (by rfl) (fun w' hw' => ?_) ?_
                rotate_left
                · obtain ⟨k0, k1, k2⟩ := hw'
                  go_simp
                  all_goals with_reducible rfl
                simp only [Act.put, List.setIfInBounds_toArray]
              refine heldI_nil ?_
              refine seqI_step rfl ?_
              go_wp2_with (go_at_call 51; ((with_reducible refine (HMP.out _ (by first | exact HBD.out _ | exact HBD2.out _)).mono ?_); rintro e W5 ⟨A1, c1', rfl, aB, a3, a3f, a3l, l', HW⟩; have p1 := (aB.cell (p := ⟨x, 1, none⟩) hbl).trans b1; have p2 := (aB.cell (p := ⟨x, 2, none⟩) hbl).trans b2; clear aB))
              refine ⟨⟨a3, p1, p2⟩, ?_⟩
              refine seqI_step rfl ?_
              go_wp2_with fail
              refine ⟨⟨a3, p1, p2⟩, ?_⟩
              refine seqI_step rfl ?_
              go_wp2_with fail
              refine ⟨⟨a3, p1, p2⟩, ?_⟩
              refine seqI_last rfl ?_
              go_wp2_with fail
              refine NoPanic.normal ?_
              all_goals
                go_wp2_with fail
                go_roundw
                case rel => exact ⟨k + 1, _, l', A1, c1', by go_num, by omega, HW⟩
                case measure => simp [intOf]; omega
          · have HK2 := Lib.hid (HSKIP.out (behind1_no _ hk1 _ (by rw [HLD.out]; exact hpL)) _ HBN)
            have i1 : ¬ (c.1.pos : Int) < (L : Int) := by omega
            have i3 : ¬ (Z : Int) = 0 := by omega
            clear HMW HMO HSKIP
            rcases (show ((dl : Int) < (Z : Int)) ∨ ¬ ((dl : Int) < (Z : Int)) by omega) with i4 | i4
            all_goals
              cases tn
              all_goals
                go_wp2_with fail
                go_roundw
                case rel => exact ⟨k + 1, n, l, sA, sc, by go_num, by omega, Lib.hid ⟨HLN.out, HK2.out⟩⟩
                case measure => simp [intOf]; omega
        · have n0 : ¬ (c.1.kind : Int) = 0 := by omega
          have n1 : ¬ (c.1.kind : Int) = 1 := by omega
          have i3 : ¬ (Z : Int) = 0 := by omega
          obtain ⟨F, hF⟩ : ∃ F, (l.filter (neN c.1.name)).length = F := ⟨_, rfl⟩
          have hbe := behind2 c.1 hk2 hz0 (datF l c.1.name)
          have HMP := Lib.hid (fun W0 (hB : Below wb.heap.size wb W0) => HMO.out W0 F hB hbe hF)
          clear hbe hF HMW HMO HSKIP HDAT HOLD HGB HGL HFROM
          rcases (show ((dl : Int) < (Z : Int)) ∨ ¬ ((dl : Int) < (Z : Int)) by omega) with i4 | i4
          all_goals
            go_wp2_with fail
            refine wp_region_noPanic ?_
            refine wp_region_held_tail (C := fun w' => w'.cell? ⟨q, 3, none⟩ = some (.slice sA n sc) ∧ w'.cell? ⟨x, 1, none⟩ = some (.string c.1.name)) [0, 1, 2, 3, 4, 5, 6] [7, 8, 9, 10] 10 (by kernel_rfl) (by kernel_rfl) (fun _ _ _ _ _ h => h) ?_ ?_
            · go_keep
            iterate 7
              refine heldI_step (v := ?_) rfl (by rfl) (fun w' hw' => ?_) ?_
              rotate_left
              · obtain ⟨k0, k1⟩ := hw'
                go_simp
                all_goals with_reducible rfl
              simp only [Act.put, List.setIfInBounds_toArray]
            refine heldI_nil ?_
            refine seqI_step rfl ?_
            go_wp2_with (go_at_call 53; ((with_reducible refine (HMP.out _ (by first | exact HBD.out _ | exact HBD2.out _)).mono ?_); rintro e W5 ⟨A1, c1', rfl, aB, a3, a3f, a3l, l', HW⟩; have p1 := (aB.cell (p := ⟨x, 1, none⟩) hbl).trans b1; clear aB))
            refine ⟨⟨a3, p1⟩, ?_⟩
            refine seqI_step rfl ?_
            go_wp2_with fail
            refine ⟨⟨a3, p1⟩, ?_⟩
            refine seqI_step rfl ?_
            go_wp2_with fail
            refine ⟨⟨a3, p1⟩, ?_⟩
            refine seqI_last rfl ?_
            go_wp2_with fail
            refine NoPanic.normal ?_
            all_goals
              go_wp2_with fail
              go_roundw
              case rel => exact ⟨k + 1, _, l', A1, c1', by go_num, by omega, HW⟩
              case measure => simp [intOf]; omega
      · have hskip : behindR c.1 z (datF l c.1.name) = datF l c.1.name := by
          by_cases h0 : 0 < z
          · have hge : pl ≤ k := by omega
            have : picks.getD k 0 = 0 := by simp [List.getD, List.getElem?_eq_none (show picks.length ≤ k by rw [HPL.out]; exact hge)]
            omega
          · exact behindR_zero _ (by omega) _
        have HK := Lib.hid (HSKIP.out hskip)
        rcases (show ¬ (k : Int) < (pl : Int) ∨ ((k : Int) < (pl : Int) ∧ ¬ 0 < z) by omega) with hk1 | ⟨hk1, hz0⟩
        · go_wp2_with fail
          go_quiet ((go_at_call 37; exact Calls.quiet_of_same (CG.out _ (.inr ⟨_, rfl⟩))))
          have HK2 := Lib.hid (HK.out _ (HBD.out nq))
          go_wp2_with fail
          go_roundw
          case rel => exact ⟨k + 1, n, l, sA, sc, by go_num, by omega, Lib.hid ⟨HLN.out, HK2.out⟩⟩
          case measure => simp [intOf]; omega
        · obtain ⟨pb, po, rfl, hpcell, hpb⟩ := hpick.out wb (Below.refl _ _) (by omega)
          have hplI : (pl : Int) ≤ (pc : Int) := by omega
          go_wp2_with fail
          go_quiet ((go_at_call 37; exact Calls.quiet_of_same (CG.out _ (.inr ⟨_, rfl⟩))))
          have HK2 := Lib.hid (HK.out _ (HBD.out nq))
          go_wp2_with fail
          go_roundw
          case rel => exact ⟨k + 1, n, l, sA, sc, by go_num, by omega, Lib.hid ⟨HLN.out, HK2.out⟩⟩
          case measure => simp [intOf]; omega
    · obtain rfl : k = N := by omega
      have hz1 := qz 1
      have hz2 := qz 2
      have hz4 := qz 4
      have HD := Lib.hid (HDONE.out wr l s3 HC.out)
      subst hs3
      clear HC HI HDONE qz
      go_wp2_with fail
      go_end0
      exact HD.out

end Go.Proofs.Ytmegiilkcidanaa.Disk

/-
  A disk of a law's own beside blocks that are the law's own too: what each call makes of the disk, and that it leaves those blocks.
-/
namespace Go.Proofs.Ytmegiilkcidanaa.Disk
open Go Go.RowKit Go.Lib Go.Proofs.Ytmegiilkcidanaa.Law

/-- The disk D; the blocks of Fr are none of it. -/
def Dx (Fr : Nat → Prop) (w : World) (db : Nat) (D : DS) (W : World) : Prop :=
  ∃ O, DiskAt W O db D ∧ (∀ k, k < w.heap.size → O k = none) ∧ Below w.heap.size w W ∧ WF D ∧ ∀ k, Fr k → w.heap.size ≤ k ∧ k < W.heap.size ∧ O k = none

theorem Dx.of {w W : World} {db : Nat} {D : DS} (h : Dk w db D W) : Dx (fun _ => False) w db D W := by
  obtain ⟨O, h1, h2, h3, h4⟩ := h
  exact ⟨O, h1, h2, h3, h4, fun _ h => h.elim⟩
theorem Dx.low {Fr : Nat → Prop} {w W : World} {db : Nat} {D : DS} (h : Dx Fr w db D W) : Below w.heap.size w W := by obtain ⟨O, _, _, h3, _⟩ := h; exact h3
theorem Dx.below {Fr : Nat → Prop} {w W W' : World} {db : Nat} {D : DS} (h : Dx Fr w db D W) (hB : Below W.heap.size W W') : Dx Fr w db D W' := by
  obtain ⟨O, h1, h2, h3, h4, h5⟩ := h
  exact ⟨O, h1.below hB, h2, h3.trans (hB.mono h3.size), h4, fun k hk => ⟨(h5 k hk).1, Nat.lt_of_lt_of_le (h5 k hk).2.1 hB.size, (h5 k hk).2.2⟩⟩
/-- New blocks are none of the disk's. -/
theorem Dx.add {Fr : Nat → Prop} {w W W' : World} {db : Nat} {D : DS} (h : Dx Fr w db D W) (hB : Below W.heap.size W W') : Dx (fun k => Fr k ∨ (W.heap.size ≤ k ∧ k < W'.heap.size)) w db D W' := by
  obtain ⟨O, h1, h2, h3, h4, h5⟩ := h
  refine ⟨O, h1.below hB, h2, h3.trans (hB.mono h3.size), h4, fun k hk => ?_⟩
  rcases hk with hk | hk
  · exact ⟨(h5 k hk).1, Nat.lt_of_lt_of_le (h5 k hk).2.1 hB.size, (h5 k hk).2.2⟩
  · exact ⟨Nat.le_trans h3.size hk.1, hk.2, Classical.byContradiction fun e => by have := h1.lt k e; omega⟩
/-- Blocks that are none of the disk's turned. -/
theorem Dx.turn {Fr : Nat → Prop} {w W W' : World} {db : Nat} {D : DS} (h : Dx Fr w db D W) (hs : W.heap.size ≤ W'.heap.size) (hk : ∀ k, k < W.heap.size → ¬ Fr k → W'.heap[k]? = W.heap[k]?) (hos : W'.os = W.os) (htp : W'.tape = W.tape) (hout : W'.output = W.output) : Dx Fr w db D W' := by
  obtain ⟨O, h1, h2, h3, h4, h5⟩ := h
  refine ⟨O, h1.keep hs fun k hk' ho => hk k hk' fun hf => ho (h5 k hf).2.2, h2, ⟨hos.trans h3.os, htp.trans h3.tape, hout.trans h3.output, Nat.le_trans h3.size hs, fun k hk' => ?_⟩, h4, fun k hf => ⟨(h5 k hf).1, Nat.lt_of_lt_of_le (h5 k hf).2.1 hs, (h5 k hf).2.2⟩⟩
  rw [hk k (Nat.lt_of_lt_of_le hk' h3.size) fun hf => by have := (h5 k hf).1; omega]
  exact h3.block k hk'

/-- The blocks of Fr lie as they lay. -/
def SameOn (Fr : Nat → Prop) (W W' : World) : Prop := (∀ k, Fr k → W'.heap[k]? = W.heap[k]?) ∧ W.heap.size ≤ W'.heap.size
theorem Dx.past {Fr : Nat → Prop} {w W W' : World} {D : DS} {O O' : Owner} (h1 : ∀ k, k < w.heap.size → O k = none) (h2 : Below w.heap.size w W) (h3 : ∀ k, Fr k → w.heap.size ≤ k ∧ k < W.heap.size ∧ O k = none) (hp : Past W O W' O') {db : Nat} (hd : DiskAt W' O' db D) (hw : WF D) :
    Dx Fr w db D W' ∧ SameOn Fr W W' := by
  obtain ⟨h7, h8⟩ := Dk.past h1 h2 hp
  exact ⟨⟨O', hd, h7, h8, hw, fun k hk => ⟨(h3 k hk).1, Nat.lt_of_lt_of_le (h3 k hk).2.1 hp.size, hp.none k (h3 k hk).2.1 (h3 k hk).2.2⟩⟩, fun k hk => hp.same k (h3 k hk).2.1 (h3 k hk).2.2, hp.size⟩
theorem Dx.sameOn {Fr : Nat → Prop} {w W W' : World} {db : Nat} {D : DS} (h : Dx Fr w db D W) (hB : Below W.heap.size W W') : SameOn Fr W W' := by
  obtain ⟨O, _, _, _, _, h5⟩ := h
  exact ⟨fun k hk => hB.block k (h5 k hk).2.1, hB.size⟩

theorem Dx.write {Fr : Nat → Prop} {w W : World} {db : Nat} {D : DS} (h : Dx Fr w db D W) (hmade : D.made ≤ 4294967296) (s : ByteArray) (hs63 : s.size ≤ 9223372036854775807) (k : Int) (hk63 : k ≤ 9223372036854775807) (dv : Value) (bs : List Nat) (hdl : bs.length ≤ 140737488351232) (hI : Bytes W.heap.size W dv bs) :
    Calls Try.prog 21 #[.pointer (some ⟨db, 0, none⟩), .string s, .int .i64 k, dv] W fun e W' => e = .returned (.int .i64 (D.writeN s k bs.length : Nat)) ∧ Dx Fr w db (D.write s k (str bs)) W' ∧ SameOn Fr W W' := by
  obtain ⟨O, h1, h2, h3, h4, h5⟩ := h
  have hb := bytesS_str hI.lt
  refine (write_calls W O db D h1 h4 hmade s hs63 k hk63 dv (str bs) (by rw [str_size]; exact hdl) (by rw [hb]; exact hI)).mono ?_
  rintro e W' ⟨rfl, O', h6, h7⟩
  rw [str_size]
  exact ⟨rfl, Dx.past h2 h3 h5 h7 h6 (h4.write s k (str bs))⟩
theorem Dx.sync {Fr : Nat → Prop} {w W : World} {db : Nat} {D : DS} (h : Dx Fr w db D W) (s : ByteArray) (hs63 : s.size ≤ 9223372036854775807) :
    Calls Try.prog 13 #[.pointer (some ⟨db, 0, none⟩), .string s] W fun e W' => e = .returned (.int .i64 (D.syncN s : Nat)) ∧ Dx Fr w db (D.sync s) W' ∧ SameOn Fr W W' := by
  obtain ⟨O, h1, h2, h3, h4, h5⟩ := h
  refine (sync_calls W O db D h1 h4 s hs63).mono ?_
  rintro e W' ⟨rfl, O', h6, h7⟩
  exact ⟨rfl, Dx.past h2 h3 h5 h7 h6 (h4.sync s)⟩
theorem Dx.crash {Fr : Nat → Prop} {w W : World} {db : Nat} {D : DS} (h : Dx Fr w db D W) (hmade : D.made ≤ 4294967296) (pv : Value) (picks : List Int) (hp : Ints (fun b => Fr b) W pv picks) :
    Calls Try.prog 15 #[.pointer (some ⟨db, 0, none⟩), pv] W fun e W' => e = .returned (.tuple #[]) ∧ Dx Fr w db (D.crash picks) W' ∧ SameOn Fr W W' := by
  obtain ⟨O, h1, h2, h3, h4, h5⟩ := h
  have hp2 : Ints (fun b => b < W.heap.size ∧ O b = none) W pv picks := by
    obtain ⟨A, cap, h6, h7, h8⟩ := hp
    refine ⟨A, cap, h6, h7, fun hl => ?_⟩
    obtain ⟨b, off, h9, h10, h11⟩ := h8 hl
    exact ⟨b, off, h9, (h5 b h10).2, h11⟩
  refine (crash_calls W O db D h1 h4 hmade pv picks hp2).mono ?_
  rintro e W' ⟨rfl, O', h6, h7⟩
  exact ⟨rfl, Dx.past h2 h3 h5 h7 h6 (h4.crash picks)⟩
theorem Dx.read {Fr : Nat → Prop} {w W : World} {db : Nat} {D : DS} (h : Dx Fr w db D W) (s : ByteArray) (hs : Short s) :
    Calls Try.prog 14 #[.pointer (some ⟨db, 0, none⟩), .string s] W (ReadD W (D.now s)) := by
  obtain ⟨O, h1, _, _, h4, _⟩ := h
  exact readD_calls W O db D h1 h4 s hs
theorem Dx.durable {Fr : Nat → Prop} {w W : World} {db : Nat} {D : DS} (h : Dx Fr w db D W) (s : ByteArray) (hs : Short s) :
    Calls Try.prog 16 #[.pointer (some ⟨db, 0, none⟩), .string s] W (ReadD W (D.safe s)) := by
  obtain ⟨O, h1, _, _, h4, _⟩ := h
  exact durableD_calls W O db D h1 h4 s hs

end Go.Proofs.Ytmegiilkcidanaa.Disk
