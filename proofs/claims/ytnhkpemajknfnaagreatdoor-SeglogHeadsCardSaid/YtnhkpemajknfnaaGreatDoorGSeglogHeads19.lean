/-
  Put together out of texts of one chain: what they hold stands ahead of each.
-/
import Derived.Test.YtnhkpemajknfnaaGreatDoorGSeglogHeads07
import Derived.Test.YtnhkpemajknfnaaGreatDoorMapIn
import Derived.Deep.DeepCutAuto
import Derived.Sort.CutIn
import Derived.Lib.QuietBelowIn
import Derived.Test.YtnhkpemajknfnaaGreatDoorToldH
import Derived.Sort.BigQuietIn
import Derived.Test.YtnhkpemajknfnaaGreatDoorTailRound
/-
  Contract of the disk's Crash.
-/
namespace Go.Proofs.YtnhkpemajknfnaaGreatDoor.Disk
open Go Go.RowKit Go.Sort Go.Shelf Go.Lib Go.Proofs.YtnhkpemajknfnaaGreatDoor.Law

attribute [local go_sem] Oper.semAt_some
@[local simp] theorem wide_fn (f : FuncId) : Fence.wide.fn f = True := rfl

theorem opaque_post {P : Program} {c : Code} {Q : Exit → Act → World → Prop} {a : Act} {w : World} (h : ∀ QQ : Exit → Act → World → Prop, (∀ a' w', Q .normal a' w' → QQ .normal a' w') → c.wp P QQ a w) : c.wp P Q a w := h Q (fun _ _ h => h)

/-- What Crash leaves. -/
def Crashed (w : World) (O : Owner) (db : Nat) (D : DS) (picks : List Int) (e : Ending) (W : World) : Prop :=
  e = .returned (.tuple #[]) ∧ ∃ O', DiskAt W O' db (D.crash picks) ∧ Past w O W O'

set_option maxRecDepth 100000 in
set_option maxHeartbeats 4000000 in
theorem crash_in (n : Nat) (hn : 5 ≤ n) (w : World) (O : Owner) (db : Nat) (D : DS) (h : DiskAt w O db D) (hw : WF D) (hmade : D.made ≤ 4294967296) (pv : Value) (picks : List Int) (hp : Ints (fun b => b < w.heap.size ∧ O b = none) w pv picks) :
    CallsIn Fence.wide n Tryz.prog 15 #[.pointer (some ⟨db, 0, none⟩), pv] w (Crashed w O db D picks) := by
  have h1 : 1 ≤ n := by omega
  obtain ⟨mb, F, hc, hf⟩ := id h
  have hdb := hc.disk.lt
  obtain ⟨nm, hnm, hm⟩ := hc.map
  have hmb := hm.lt
  obtain ⟨w1, hw1⟩ : ∃ w1, ((w.alloc (.cells #[pv] 55)).alloc (.cells #[.int .i64 0] 3)) = w1 := ⟨_, rfl⟩
  have hs1 : w1.heap.size = w.heap.size + 2 := by rw [← hw1]; simp
  have hB1 : Below w.heap.size w w1 := by rw [← hw1]; exact ((Below.refl _ _).alloc (Nat.le_refl _) _).alloc (by simp) _
  have x3 : Boxed w1 w.heap.size 55 pv := by rw [← hw1]; exact (Boxed.new _ _ _).alloc _
  have x4 : Boxed w1 (w.heap.size + 1) 3 (.int .i64 0) := by
    rw [← hw1]
    have := Boxed.new (w.alloc (.cells #[pv] 55)) 3 (.int .i64 0)
    rwa [World.size_alloc] at this
  have hc1 := hc.keep hB1.size fun k hk _ => hB1.block k hk
  have hf1 : ∀ s ∈ D.names, ∃ fb, F s = some fb ∧ FileAt w1 O (db + 1) s fb (D.now s) (D.safe s) (mine s D.chs) := fun s hs => by
    obtain ⟨fb, h3, h4⟩ := hf s hs
    exact ⟨fb, h3, h4.keep fun k hk ho => ⟨hB1.block k hk, ho⟩⟩
  have CC := Lib.hid (changes_calls w1 O db mb D F hc1 hf1 hw hmade)
  have HW1 := Lib.hid hw1
  obtain ⟨pa, pl, pc, rfl⟩ : ∃ pa pl pc, pv = .slice pa pl pc := by obtain ⟨A, cap, h, _⟩ := hp; exact ⟨_, _, _, h⟩
  have HP := Lib.hid hp
  have HC := Lib.hid hc
  have HF := Lib.hid hf
  have HWF := Lib.hid hw
  have HM := Lib.hid hm
  clear hw1 hc1 hf1 h hp hc hf hw hm
  refine callsIn_of_wp_marks Tryz.func15 rfl trivial ?_ rfl
  simp only [Tryz.ntmps15, List.size_toArray, List.length_cons, List.length_nil, Nat.reduceAdd, Nat.reduceSub, Array.replicate_succ, Array.replicate_zero, List.push_toArray, List.append_toArray, List.nil_append, List.cons_append]
  gi_upto_region 3 with fail
  rw [HW1.out]
  gi_wp2_with fail
  refine ⟨trivial, ?_⟩
  refine ((callsIn_wide.2 CC.out).mono ?_).2
  rintro e w2 ⟨v, rfl, hbx, hox, hB2⟩
  rw [hs1] at hbx hox
  have hBw2 := hB1.trans (hB2.mono hB1.size)
  have hs2 := hB2.size
  have hM0 : MidI w O db mb w2.heap.size D F picks 0 w2 := ⟨⟨O, Mid.start HC.out HF.out hBw2⟩, hBw2.block db hdb, hBw2.block mb hmb⟩
  have HX3 : Hid (Boxed w2 w.heap.size 55 (.slice pa pl pc)) := (hB2.block _ x3.lt).trans x3
  have HX4 : Hid (Boxed w2 (w.heap.size + 1) 3 (.int .i64 0)) := (hB2.block _ x4.lt).trans x4
  have hown := hox.own
  have hlen : (allTagged F D.chs).length ≤ 4294967296 := by unfold allTagged; rw [List.length_map]; have := HWF.out.len; omega
  have HBX := Lib.hid hbx
  have HOX := Lib.hid hox
  have HM0 := Lib.hid hM0
  have HOWN := Lib.hid hown
  have hlt2 : w.heap.size + 2 < w2.heap.size := (Array.getElem?_eq_some_iff.1 (show w2.heap[w.heap.size + 2]? = _ from hbx)).1
  have HLEN := Lib.hid hlen
  clear hB1 hB2 hBw2 hM0 x3 x4 CC hbx hox hown HW1 hlen
  gi_wp2_with fail
  refine wpIn_rangeFunc_toldH rfl h1 (gf := 65) (lb := #[.pointer (some ⟨w.heap.size + 2, 0, none⟩)]) rfl trivial (enters_of Tryz.func65 (by kernel_rfl) rfl)
      (iter_stops (n - 1) (by omega) (w.heap.size + 2) (w.heap.size + 2 + 2) v (allTagged F D.chs) HLEN.out w2 HBX.out HOX.out) KeepB.trans
      (fun W l o o' hl hlo _ _ => ⟨by simp, fun k hk _ => World.putObj_heap_other (fun e => by have := (HOWN.out k hk).2; omega)⟩) (Below.refl _ _) (fun _ => rfl)
      (fun pre W => Boxed W w.heap.size 55 (.slice pa pl pc) ∧ (Boxed W (w.heap.size + 1) 3 (.int .i64 (pre.length : Nat)) ∧ MidI w O db mb w2.heap.size D F picks pre.length W))
      (fun _ _ _ => False)
      (OwnFrom.and ((boxed_own _ _ (fun _ => .slice pa pl pc)).from _) (OwnFrom.and ((boxed_own _ _ (fun pre : List (Nat × Chg) => .int .i64 (pre.length : Nat))).from _) (midI_own hdb hmb (by omega))))
      (fun _ _ _ _ _ hs _ _ => hs) (fun _ _ _ _ _ _ _ _ => trivial) ⟨HX3.out, HX4.out, HM0.out⟩ (fun _ hg => ⟨hg.size, fun k _ hlt => hg.block k hlt (by simp)⟩)
      (fun x a' W => ∃ Bc, W.heap[Bc]? = some (.cells #[.int .i64 (x.2.n : Nat), .int .i64 (x.2.kind : Nat), .int .i64 (x.2.pos : Nat), .string x.2.s] 73 (0, 0)) ∧ a' = { tmps := List.toArray ((.pointer (some ⟨db, 0, none⟩)) :: (.slice pa pl pc) :: undef :: (.pointer (some ⟨w.heap.size, 0, none⟩)) :: (.pointer (some ⟨w.heap.size + 1, 0, none⟩)) :: (.pointer (some ⟨x.1, 0, none⟩)) :: (.pointer (some ⟨Bc, 0, none⟩)) :: undef :: undef :: undef :: (.pointer (some ⟨db, 0, none⟩)) :: (.bool false) :: (.pointer (some ⟨db, 0, none⟩)) :: (.func (.func 65) #[] #[.pointer (some ⟨w.heap.size + 2, 0, none⟩)]) :: (.pointer (some ⟨x.1, 0, none⟩)) :: (.agg #[.int .i64 (x.2.n : Nat), .int .i64 (x.2.kind : Nat), .int .i64 (x.2.pos : Nat), .string x.2.s]) :: undef :: undef :: undef :: undef :: undef :: undef :: undef :: undef :: undef :: undef :: undef :: undef :: undef :: undef :: undef :: undef :: undef :: undef :: undef :: undef :: undef :: undef :: undef :: undef :: undef :: undef :: undef :: undef :: undef :: undef :: undef :: undef :: undef :: undef :: undef :: undef :: undef :: undef :: undef :: undef :: undef :: undef :: undef :: undef :: undef :: undef :: undef :: undef :: undef :: undef :: undef :: undef :: undef :: undef :: undef :: undef :: undef :: undef :: undef :: undef :: undef :: undef :: undef :: undef :: undef :: undef :: undef :: []), defers := [] })
      (fun x a' _ A B row hs hg hr => by
        obtain ⟨Bc, h3, h4⟩ := hs
        refine ⟨Bc, (hg.block _ (Array.getElem?_eq_some_iff.1 h3).1 (fun e => ?_)).trans h3, h4⟩
        obtain ⟨_, o, ho, hc⟩ := hr _ e.symm
        rw [h3] at ho
        cases ho
        cases hc)
      ?assign ?body ?done ?stop
  case stop =>
    rintro D c pre W hD - hF
    exact hF.elim
  case assign =>
    intro l pre x W K hI _ hK
    obtain ⟨fx, cn, ck, cp, cs⟩ := x
    gi_wp2
    exact hK _ _ (World.grownBy_alloc _ _ _) ⟨W.heap.size, heap_alloc_new W _, rfl⟩
  case body =>
    rintro l pre ⟨fx, cn, ck, cp, cs⟩ a' W ⟨b3, b4, hM⟩ - ⟨Bc, hBc, rfl⟩ ⟨k, hk⟩ hlt
    obtain ⟨j, hj⟩ : ∃ j, pre.length = j := ⟨_, rfl⟩
    have hx : (allTagged F D.chs)[j]? = some (fx, ⟨cn, ck, cp, cs⟩) := by
      have e1 : (pre ++ [((fx, ⟨cn, ck, cp, cs⟩) : Nat × Chg)])[j]? = some (fx, ⟨cn, ck, cp, cs⟩) := by rw [← hj]; simp
      rw [hk, List.getElem?_take] at e1
      split at e1
      · exact e1
      · cases e1
    obtain ⟨y, hy, hyx⟩ : ∃ y, D.chs[j]? = some y ∧ ((F y.1).getD 0, y.2) = (fx, (⟨cn, ck, cp, cs⟩ : Chg)) := by
      unfold allTagged at hx
      rw [List.getElem?_map] at hx
      cases hq : D.chs[j]? with
      | none => rw [hq] at hx; cases hx
      | some y => rw [hq] at hx; exact ⟨y, rfl, Option.some.inj hx⟩
    rw [hj] at b4 hM
    obtain ⟨O', fb, nt, nv, sh, cv, A, c, hF, hfb, hMM, hfile, hbuf, hO, hown⟩ := midI_file hM HWF.out hy
    obtain ⟨ys, yc⟩ := y
    simp only [hF, Option.getD_some, Prod.mk.injEq] at hyx
    obtain ⟨rfl, rfl⟩ := hyx
    simp only at hF hMM hfile hbuf hO hown
    have hsz := HWF.out.crashSz picks j ys
    have hch := HWF.out.chSz _ (List.mem_of_getElem? hy)
    have hkd := HWF.out.kind _ (List.mem_of_getElem? hy)
    simp only at hch hkd
    have CB : Hid (∀ W0, Below W.heap.size W W0 → Calls Tryz.prog 40 #[.agg #[.bool (crashTo picks D.chs D.safe j ys).isSome, .slice A (szO (crashTo picks D.chs D.safe j ys)) c], .agg #[.int .i64 (cn : Nat), .int .i64 (ck : Nat), .int .i64 (cp : Nat), .string cs], .int .i64 (picks.getD j 0)] W0
        fun e W2 => ∃ t A' l' c', e = .returned (.agg #[.bool t, .slice A' l' c']) ∧ ((∃ q, W2.cell? ⟨fb, 2, none⟩ = some q) ∧ (∃ q, W2.cell? ⟨fb, 3, none⟩ = some q) ∧ W2.frozen? ⟨fb, 2, none⟩ = false ∧ W2.frozen? ⟨fb, 3, none⟩ = false) ∧
          Hid (MidI w O db mb w2.heap.size D F picks (j + 1) ((W2.setCell ⟨fb, 2, none⟩ (.bool t)).setCell ⟨fb, 3, none⟩ (.slice A' l' c')) ∧ KeepsOthers W ((W2.setCell ⟨fb, 2, none⟩ (.bool t)).setCell ⟨fb, 3, none⟩ (.slice A' l' c')) ∧
            (∀ r, w.heap.size ≤ r → r < w2.heap.size → ((W2.setCell ⟨fb, 2, none⟩ (.bool t)).setCell ⟨fb, 3, none⟩ (.slice A' l' c')).heap[r]? = W.heap[r]?) ∧ W.heap.size ≤ ((W2.setCell ⟨fb, 2, none⟩ (.bool t)).setCell ⟨fb, 3, none⟩ (.slice A' l' c')).heap.size)) := Lib.hid fun W0 hB => by
      refine (behind_calls W0 (db + 1) A c (crashTo picks D.chs D.safe j ys) (hbuf.below hB) (by have := hB.size; have := hMM.size; omega) hsz ⟨cn, ck, cp, cs⟩ hch hkd (picks.getD j 0)).mono fun e W2 hb => ?_
      obtain ⟨t, A', l', c', h3, ⟨h4, h5, h6, h7⟩, h8⟩ := crash_turn HC.out hM hy hF hfb hMM hfile hbuf hO hown hB hb
      exact ⟨t, A', l', c', h3, ⟨⟨_, h4⟩, ⟨_, h5⟩, h6, h7⟩, Lib.hid h8⟩
    have hfbW := hfile.lt
    obtain ⟨⟨_, _, f2, f3, _, _⟩, _⟩ := hfile.cells
    obtain ⟨o, ho⟩ : ∃ o, crashTo picks D.chs D.safe j ys = o := ⟨_, rfl⟩
    rw [ho] at f2 f3 CB
    obtain ⟨ot, hot⟩ : ∃ ot, o.isSome = ot := ⟨_, rfl⟩
    obtain ⟨os, hos⟩ : ∃ os, szO o = os := ⟨_, rfl⟩
    rw [hot, hos] at CB
    rw [hot] at f2
    rw [hos] at f3
    have F2 := cell_regrown f2
    have F3 := cell_regrown f3
    have g0 : W.cell? ⟨Bc, 0, none⟩ = some (.int .i64 (cn : Nat)) := by simp [World.cell?, hBc]
    have g1 : W.cell? ⟨Bc, 1, none⟩ = some (.int .i64 (ck : Nat)) := by simp [World.cell?, hBc]
    have g2 : W.cell? ⟨Bc, 2, none⟩ = some (.int .i64 (cp : Nat)) := by simp [World.cell?, hBc]
    have g3 : W.cell? ⟨Bc, 3, none⟩ = some (.string cs) := by simp [World.cell?, hBc]
    have G0 := cell_regrown g0
    have G1 := cell_regrown g1
    have G2 := cell_regrown g2
    have G3 := cell_regrown g3
    have a3 := b3.cell
    have a4 := b4.cell
    have hjl : j ≤ 4294967296 := by have := HLEN.out; have hq : j < (allTagged F D.chs).length := (List.getElem?_eq_some_iff.1 hx).1; omega
    have hpl : pl = picks.length := by obtain ⟨A, cap, h3, _⟩ := HP.out; simp only [Value.slice.injEq] at h3; exact h3.2.1
    have hrow : ∀ r, v.ownBlock = some r → w.heap.size + 1 < r ∧ r < w2.heap.size := fun r hr => by have := HOWN.out r hr; omega
    have HROW := Lib.hid hrow
    have H3 := Lib.hid b3
    have H4 := Lib.hid b4
    have hpi : j < pl → ∃ b off, pa = some ⟨b, off, none⟩ ∧ pl ≤ pc ∧ W.cell? ⟨b, off + j, none⟩ = some (.int .i64 (picks.getD j 0)) := fun hjp => by
      obtain ⟨A, cap, h3, h4, h5⟩ := HP.out
      simp only [Value.slice.injEq] at h3
      obtain ⟨rfl, _, rfl⟩ := h3
      obtain ⟨b, off, h6, ⟨h7, h8⟩, h9⟩ := h5 (by omega)
      refine ⟨b, off, h6, by omega, ?_⟩
      have := h9 j (by omega)
      simp only [World.cell?, hMM.same b h7 h8] at this ⊢
      exact this
    have hpo : ¬ j < pl → picks.getD j 0 = 0 := fun hjp => by
      rw [List.getD, List.getElem?_eq_none (by omega)]; rfl
    have HPO := Lib.hid hpo
    have HPI := Lib.hid hpi
    clear hM hy hk hx hF hfb hMM hfile hbuf hO hown hsz hch hkd ho hot hos b3 b4 hBc hpl hrow hpi hpo
    have HBD : Hid (Below W.heap.size W W.drew) := Lib.hid (Below.refl _ _).drew
    have HEND : Hid (∀ (Wf : World) (a' : Act), (MidI w O db mb w2.heap.size D F picks (j + 1) Wf ∧ KeepsOthers W Wf ∧ (∀ r, w.heap.size ≤ r → r < w2.heap.size → Wf.heap[r]? = W.heap[r]?) ∧ W.heap.size ≤ Wf.heap.size ∧ Wf.heap[w.heap.size]? = some (.cells #[.slice pa pl pc] 55 (0, 0)) ∧ Boxed Wf (w.heap.size + 1) 3 (.int .i64 (j : Nat))) →
        ownPostK (KeepB v.ownBlock) (fun pre W => Boxed W w.heap.size 55 (.slice pa pl pc) ∧ (Boxed W (w.heap.size + 1) 3 (.int .i64 (pre.length : Nat)) ∧ MidI w O db mb w2.heap.size D F picks pre.length W)) (fun _ _ _ => False) (pre ++ [((fb, ⟨cn, ck, cp, cs⟩) : Nat × Chg)]) W .normal a' (Wf.setCell ⟨w.heap.size + 1, 0, none⟩ (.int .i64 ((j : Int) + 1)))) := Lib.hid fun Wf a' ⟨m1, m2, m3, m4, y3, y4⟩ => by
      have hpl2 : (pre ++ [((fb, ⟨cn, ck, cp, cs⟩) : Nat × Chg)]).length = j + 1 := by rw [List.length_append, hj]; rfl
      refine ⟨m2.trans (KeepsOthers.setCell _ _ _), ⟨by simp only [World.setCell, Array.size_modify]; exact m4, fun r hr hlt => ?_⟩, ?_, ?_, ?_⟩
      · have := HROW.out r hr
        exact (Below.heap_setCell _ _ _ _ (by show r ≠ w.heap.size + 1; omega)).trans (m3 r (by omega) this.2)
      · exact (show Boxed Wf w.heap.size 55 (.slice pa pl pc) from y3).other (by omega) _
      · rw [hpl2]
        exact y4.set _
      · rw [hpl2]
        exact midI_box m1 hdb hmb (by omega) (by omega) _
    clear hj
    by_cases hjp : j < pl
    · obtain ⟨b, off, rfl, hpc, p0⟩ := HPI.out hjp
      obtain ⟨pk, hpk⟩ : ∃ pk, picks.getD j 0 = pk := ⟨_, rfl⟩
      rw [hpk] at p0 CB
      clear hpk HPO HPI
      have hjI : (j : Int) < (pl : Int) := by omega
      gi_wp2_with fail
      refine wpIn_round_any (by kernel_rfl) (by kernel_rfl) ?_
      intro QQ hQQ hNO
      have HQQ := Lib.hid hQQ
      have HNO := Lib.hid hNO
      clear hQQ hNO
      refine wpAny_take (i := 0) (v := ?_) rfl (by kernel_rfl) (by kernel_rfl) (by kernel_rfl) (fun _ _ _ h => absurd h (HNO.out _ _ _)) (Or.inl ⟨by rfl, ?_⟩) ?_
      rotate_left
      · intro w; go_simp; try with_reducible rfl
      refine wpAny_take (i := 1) (v := ?_) rfl (by kernel_rfl) (by kernel_rfl) (by kernel_rfl) (fun _ _ _ h => absurd h (HNO.out _ _ _)) (Or.inl ⟨by rfl, ?_⟩) ?_
      rotate_left
      · intro w; go_simp; try with_reducible rfl
      refine wpAny_take (i := 2) (v := ?_) rfl (by kernel_rfl) (by kernel_rfl) (by kernel_rfl) (fun _ _ _ h => absurd h (HNO.out _ _ _)) (Or.inl ⟨by rfl, ?_⟩) ?_
      rotate_left
      · intro w; go_simp; try with_reducible rfl
      refine wpAny_take (i := 3) (v := ?_) rfl (by kernel_rfl) (by kernel_rfl) (by kernel_rfl) (fun _ _ _ h => absurd h (HNO.out _ _ _)) (Or.inl ⟨by rfl, ?_⟩) ?_
      rotate_left
      · intro w; go_simp; try with_reducible rfl
      refine wpAny_take (i := 6) (v := ?_) rfl (by kernel_rfl) (by kernel_rfl) (by kernel_rfl) (fun _ _ _ h => absurd h (HNO.out _ _ _)) (Or.inl ⟨by rfl, ?_⟩) ?_
      rotate_left
      · intro w; go_simp; try with_reducible rfl
      refine wpAny_ready (rs := [4, 5]) (by kernel_rfl) (by simp) (AllReady.cons rfl (fun K hK => ?_) (AllReady.cons rfl (fun K hK => ?_) AllReady.nil))
      · go_simp
        refine hK _ _ ?_
        clear hK K
        refine wpAny_ready (rs := [5]) (by kernel_rfl) (by simp) (AllReady.cons rfl (fun K hK => ?_) AllReady.nil)
        go_simp
        refine hK _ _ ?_
        clear hK K
        refine wpAny_seq_lit 7 rfl (by kernel_rfl) ?_
        simp only [List.drop_succ_cons, List.drop_zero]
        go_wp2_with fail
        refine (CB.out _ HBD.out).mono ?_
        rintro e W2 ⟨t, A', l', c', rfl, ⟨⟨_, q2⟩, ⟨_, q3⟩, q4, q5⟩, HFIN⟩
        clear CB
        obtain ⟨m1, m2, m3, m4⟩ := HFIN.out
        have y4 : Boxed ((W2.setCell ⟨fb, 2, none⟩ (.bool t)).setCell ⟨fb, 3, none⟩ (.slice A' l' c')) (w.heap.size + 1) 3 (.int .i64 (j : Nat)) := (m3 (w.heap.size + 1) (by omega) (by omega)).trans H4.out
        have y3 := (m3 w.heap.size (by omega) (by omega)).trans H3.out
        have HMM := Lib.hid (And.intro m1 (And.intro m2 (And.intro m3 (And.intro m4 (And.intro y3 y4)))))
        have z4 := y4.cell
        have z5 := y4.frozen
        clear m1 m2 m3 m4 y3 y4 HFIN
        go_wp2_with fail
        refine HQQ.out _ _ ?_
        clear HQQ
        gi_wp2_with fail
        exact HEND.out _ _ HMM.out
      · go_simp
        refine hK _ _ ?_
        clear hK K
        refine wpAny_ready (rs := [4]) (by kernel_rfl) (by simp) (AllReady.cons rfl (fun K hK => ?_) AllReady.nil)
        go_simp
        refine hK _ _ ?_
        clear hK K
        refine wpAny_seq_lit 7 rfl (by kernel_rfl) ?_
        simp only [List.drop_succ_cons, List.drop_zero]
        go_wp2_with fail
        refine (CB.out _ HBD.out).mono ?_
        rintro e W2 ⟨t, A', l', c', rfl, ⟨⟨_, q2⟩, ⟨_, q3⟩, q4, q5⟩, HFIN⟩
        clear CB
        obtain ⟨m1, m2, m3, m4⟩ := HFIN.out
        have y4 : Boxed ((W2.setCell ⟨fb, 2, none⟩ (.bool t)).setCell ⟨fb, 3, none⟩ (.slice A' l' c')) (w.heap.size + 1) 3 (.int .i64 (j : Nat)) := (m3 (w.heap.size + 1) (by omega) (by omega)).trans H4.out
        have y3 := (m3 w.heap.size (by omega) (by omega)).trans H3.out
        have HMM := Lib.hid (And.intro m1 (And.intro m2 (And.intro m3 (And.intro m4 (And.intro y3 y4)))))
        have z4 := y4.cell
        have z5 := y4.frozen
        clear m1 m2 m3 m4 y3 y4 HFIN
        go_wp2_with fail
        refine HQQ.out _ _ ?_
        clear HQQ
        gi_wp2_with fail
        exact HEND.out _ _ HMM.out
    · have hpk := HPO.out hjp
      rw [hpk] at CB
      clear hpk HPO HPI
      have hjI : ¬ (j : Int) < (pl : Int) := by omega
      gi_wp2_with fail
      refine wpIn_round_any (by kernel_rfl) (by kernel_rfl) ?_
      intro QQ hQQ hNO
      have HQQ := Lib.hid hQQ
      have HNO := Lib.hid hNO
      clear hQQ hNO
      refine wpAny_take (i := 0) (v := ?_) rfl (by kernel_rfl) (by kernel_rfl) (by kernel_rfl) (fun _ _ _ h => absurd h (HNO.out _ _ _)) (Or.inl ⟨by rfl, ?_⟩) ?_
      rotate_left
      · intro w; go_simp; try with_reducible rfl
      refine wpAny_take (i := 1) (v := ?_) rfl (by kernel_rfl) (by kernel_rfl) (by kernel_rfl) (fun _ _ _ h => absurd h (HNO.out _ _ _)) (Or.inl ⟨by rfl, ?_⟩) ?_
      rotate_left
      · intro w; go_simp; try with_reducible rfl
      refine wpAny_take (i := 2) (v := ?_) rfl (by kernel_rfl) (by kernel_rfl) (by kernel_rfl) (fun _ _ _ h => absurd h (HNO.out _ _ _)) (Or.inl ⟨by rfl, ?_⟩) ?_
      rotate_left
      · intro w; go_simp; try with_reducible rfl
      refine wpAny_take (i := 3) (v := ?_) rfl (by kernel_rfl) (by kernel_rfl) (by kernel_rfl) (fun _ _ _ h => absurd h (HNO.out _ _ _)) (Or.inl ⟨by rfl, ?_⟩) ?_
      rotate_left
      · intro w; go_simp; try with_reducible rfl
      refine wpAny_take (i := 6) (v := ?_) rfl (by kernel_rfl) (by kernel_rfl) (by kernel_rfl) (fun _ _ _ h => absurd h (HNO.out _ _ _)) (Or.inl ⟨by rfl, ?_⟩) ?_
      rotate_left
      · intro w; go_simp; try with_reducible rfl
      refine wpAny_ready (rs := [4, 5]) (by kernel_rfl) (by simp) (AllReady.cons rfl (fun K hK => ?_) (AllReady.cons rfl (fun K hK => ?_) AllReady.nil))
      · go_simp
        refine hK _ _ ?_
        clear hK K
        refine wpAny_ready (rs := [5]) (by kernel_rfl) (by simp) (AllReady.cons rfl (fun K hK => ?_) AllReady.nil)
        go_simp
        refine hK _ _ ?_
        clear hK K
        refine wpAny_seq_lit 7 rfl (by kernel_rfl) ?_
        simp only [List.drop_succ_cons, List.drop_zero]
        go_wp2_with fail
        refine (CB.out _ HBD.out).mono ?_
        rintro e W2 ⟨t, A', l', c', rfl, ⟨⟨_, q2⟩, ⟨_, q3⟩, q4, q5⟩, HFIN⟩
        clear CB
        obtain ⟨m1, m2, m3, m4⟩ := HFIN.out
        have y4 : Boxed ((W2.setCell ⟨fb, 2, none⟩ (.bool t)).setCell ⟨fb, 3, none⟩ (.slice A' l' c')) (w.heap.size + 1) 3 (.int .i64 (j : Nat)) := (m3 (w.heap.size + 1) (by omega) (by omega)).trans H4.out
        have y3 := (m3 w.heap.size (by omega) (by omega)).trans H3.out
        have HMM := Lib.hid (And.intro m1 (And.intro m2 (And.intro m3 (And.intro m4 (And.intro y3 y4)))))
        have z4 := y4.cell
        have z5 := y4.frozen
        clear m1 m2 m3 m4 y3 y4 HFIN
        go_wp2_with fail
        refine HQQ.out _ _ ?_
        clear HQQ
        gi_wp2_with fail
        exact HEND.out _ _ HMM.out
      · go_simp
        refine hK _ _ ?_
        clear hK K
        refine wpAny_ready (rs := [4]) (by kernel_rfl) (by simp) (AllReady.cons rfl (fun K hK => ?_) AllReady.nil)
        go_simp
        refine hK _ _ ?_
        clear hK K
        refine wpAny_seq_lit 7 rfl (by kernel_rfl) ?_
        simp only [List.drop_succ_cons, List.drop_zero]
        go_wp2_with fail
        refine (CB.out _ HBD.out).mono ?_
        rintro e W2 ⟨t, A', l', c', rfl, ⟨⟨_, q2⟩, ⟨_, q3⟩, q4, q5⟩, HFIN⟩
        clear CB
        obtain ⟨m1, m2, m3, m4⟩ := HFIN.out
        have y4 : Boxed ((W2.setCell ⟨fb, 2, none⟩ (.bool t)).setCell ⟨fb, 3, none⟩ (.slice A' l' c')) (w.heap.size + 1) 3 (.int .i64 (j : Nat)) := (m3 (w.heap.size + 1) (by omega) (by omega)).trans H4.out
        have y3 := (m3 w.heap.size (by omega) (by omega)).trans H3.out
        have HMM := Lib.hid (And.intro m1 (And.intro m2 (And.intro m3 (And.intro m4 (And.intro y3 y4)))))
        have z4 := y4.cell
        have z5 := y4.frozen
        clear m1 m2 m3 m4 y3 y4 HFIN
        go_wp2_with fail
        refine HQQ.out _ _ ?_
        clear HQQ
        gi_wp2_with fail
        exact HEND.out _ _ HMM.out
  case done =>
    rintro Dd ys W hD rfl ⟨b3, b4, hM⟩ hK
    have hk : (allTagged F D.chs).length = D.chs.length := by unfold allTagged; rw [List.length_map]
    rw [hk] at hM
    obtain ⟨⟨O', hMM⟩, hdW, hmW⟩ := hM
    have hMM : Mid w O (db + 1) w2.heap.size D.names F (D.crashSafe picks) D.names O' W := hMM
    have hT := total_le (D.crashSafe picks) 1073741824 (fun s b hb => by have := HWF.out.crashSz picks D.chs.length s; unfold DS.crashSafe at hb; rw [hb] at this; exact this) D.names
    obtain ⟨st, hst⟩ : ∃ st, D.crashSafe picks = st := ⟨_, rfl⟩
    rw [hst] at hMM hT
    have hTb : total D.names st ≤ 4611686018427387904 := by
      have := HWF.out.count
      have : D.names.length * 1073741824 ≤ 4294967296 * 1073741824 := Nat.mul_le_mul_right _ (by omega)
      omega
    have hnd := HWF.out.nodup
    have hdom := HC.out.dom
    have hshort : ∀ s ∈ D.names, Short s := fun s hs => HWF.out.short hs
    have hdbm : db ≠ mb := fun e => by
      obtain ⟨a, c, h2⟩ := HM.out.isMap
      have h1 := HC.out.disk
      unfold DB at h1
      rw [e, h2] at h1
      cases h1
    have hDB : DB W db mb (D.room : Int) (D.used : Int) (D.made : Int) D.fails := hdW.trans HC.out.disk
    have hm := HM.out.at hmW
    have hdbW : db < W.heap.size := Nat.lt_of_lt_of_le hdb hMM.size
    have hmbW : mb < W.heap.size := Nat.lt_of_lt_of_le hmb hMM.size
    have hDW : Dd < W.heap.size := (Array.getElem?_eq_some_iff.1 hK).1
    have hsz1 : (W.setCell ⟨db, 2, none⟩ (.int .i64 0)).heap.size = W.heap.size := by simp [World.setCell]
    have hm1 := hm.at (W' := W.setCell ⟨db, 2, none⟩ (.int .i64 0)) (Below.heap_setCell _ _ _ _ (Ne.symm hdbm))
    have hDB1 : DB (W.setCell ⟨db, 2, none⟩ (.int .i64 0)) db mb (D.room : Int) ((0 : Nat) : Int) (D.made : Int) D.fails := (block_set hDB 2 _).trans (by simp)
    have hM1 := hMM.core (grown_setCell W db 2 (.int .i64 0)) hdb HC.out.odb
    have hK1 : (W.setCell ⟨db, 2, none⟩ (.int .i64 0)).heap[Dd]? = some (.deferred (some [])) := (Below.heap_setCell _ _ _ _ (by show Dd ≠ db; omega)).trans hK
    obtain ⟨w', cnt, hrun, hR, hG, hS⟩ := hm1.rng Tryz.underlying9 Tryz.underlying60 D.names hnd hshort hdom
    rw [hsz1] at hrun hR hS
    have hM2 := hM1.grown hG (fun r e => by cases e)
    have hDB2 : DB w' db mb (D.room : Int) ((0 : Nat) : Int) (D.made : Int) D.fails := (hG.block db (by rw [hsz1]; exact hdbW) (by simp)).trans hDB1
    have hK2 : w'.heap[Dd]? = some (.deferred (some [])) := (hG.block Dd (by rw [hsz1]; exact hDW) (by simp)).trans hK1
    rw [← goneF_start F st D.names] at hR
    have HRUN := Lib.hid hrun
    have H0 := Lib.hid (And.intro hR (And.intro hDB2 (And.intro hM2 hK2)))
    obtain ⟨⟨d0, d1, d2, d3, d4⟩, dz⟩ := hDB.cells
    have dz2 := dz 2
    obtain ⟨⟨e0, _⟩, _⟩ := hDB1.cells
    have HSUB := Lib.hid hnd
    have HST := Lib.hid hst
    clear hK hMM hdW hmW hT hdom hshort hm hm1 hDB hDB1 hM1 hK1 hrun hR hG hS hM2 hDB2 hK2 hnd hst b3 b4 dz hsz1 hk HX3 HX4 HM0 HBX HOX HOWN HLEN
    gi_wp2_with (first | (gi_at_range; refine wpListIn_range_ran rfl _ _ rfl rfl HRUN.out ?_))
    go_frame
    gi_loopw [8] (fun _ wr => ∃ (rest : List ByteArray) (c u : Nat), Rng Tryz.prog 9 wr mb W.heap.size nm (goneF F st D.names rest) rest c ∧ Hid (DB wr db mb (D.room : Int) (u : Nat) (D.made : Int) D.fails) ∧ Hid (∃ O', Mid w O (db + 1) w2.heap.size D.names F st rest O' wr) ∧ Hid (u + total rest st = total D.names st) ∧ Hid (∀ s ∈ rest, s ∈ D.names) ∧ Hid (wr.heap[Dd]? = some (.deferred (some []))))
      (fun _ wr => wr.rangeLeft mb W.heap.size)
    case atStart => exact ⟨D.names, cnt, 0, H0.out.1, Lib.hid H0.out.2.1, Lib.hid ⟨_, H0.out.2.2.1⟩, Lib.hid (Nat.zero_add _), Lib.hid (fun _ h => h), Lib.hid H0.out.2.2.2⟩
    case round =>
      obtain ⟨rest, c, u, hrng, HDB, HMI, HU, HIN, HDD⟩ := hrel
      have hleft := hrng.left
      have hRW := hrng.iterLt
      obtain ⟨ia, ib, ic, id, hiter⟩ := hrng.isIter
      have hDDne : Dd ≠ W.heap.size := by omega
      rcases hrng.next Tryz.underlying9 0 with ⟨rfl, hnx⟩ | ⟨s, g, wa, c1, hs, hF, hnx, hrng1, hlt, hg1, hs1, hen⟩
      · have HNX := Lib.hid hnx
        have hu : u = total D.names st := by have := HU.out; simpa [total] using this
        subst hu
        obtain ⟨⟨d0, d1, d2, d3, d4⟩, dz⟩ := HDB.out.cells
        have dz4 := dz 4
        have hdbr := HDB.out.lt
        have HEND : Hid ((wr.setCell ⟨db, 4, none⟩ (.bool false)).heap[Dd]? = some (.deferred (some [])) ∧ Crashed w O db D picks (.returned (.tuple #[])) ((wr.setCell ⟨db, 4, none⟩ (.bool false)).putObj Dd (.deferred none))) := Lib.hid (by
          obtain ⟨O', hM⟩ := HMI.out
          have hDd : (wr.setCell ⟨db, 4, none⟩ (.bool false)).heap[Dd]? = some (.deferred (some [])) := (Below.heap_setCell _ _ _ _ (by show Dd ≠ db; omega)).trans HDD.out
          refine ⟨hDd, rfl, O', ?_⟩
          have hMa := hM.core (grown_setCell wr db 4 (.bool false)) hdb HC.out.odb
          have hMb := hMa.grown (grownBy_putObj' _ Dd (.deferred none)) (fun r e => by
            obtain rfl : Dd = r := by simpa using e
            exact ⟨by omega, _, hDd, rfl⟩)
          have hDBf : DB ((wr.setCell ⟨db, 4, none⟩ (.bool false)).putObj Dd (.deferred none)) db mb (D.room : Int) (total D.names st : Nat) (D.made : Int) false := (World.putObj_heap_other (by omega)).trans ((block_set HDB.out 4 _).trans (by simp))
          have hmf := hrng.map.at (W' := (wr.setCell ⟨db, 4, none⟩ (.bool false)).putObj Dd (.deferred none)) ((World.putObj_heap_other (by omega)).trans (Below.heap_setCell _ _ _ _ (Ne.symm hdbm)))
          rw [← HST.out] at hMb hDBf hmf
          exact crashed_done HC.out hMb hDBf hnm hmf)
        clear hnx hrng hleft hiter dz HU HIN HMI HDD HDB
        gi_wp2_with (first | (gi_at_next; refine wpListIn_next_ran rfl _ _ rfl rfl HNX.out ?_))
        obtain ⟨k1, k2⟩ := HEND.out
        refine ⟨by simp, .inl ⟨_, _, rfl, run_takeDeferred k1, ?_⟩⟩
        exact ⟨.tuple #[], by simp [results, Tryz.results15, go_sem], k2⟩
      · have HNX := Lib.hid hnx
        have HEN := Lib.hid hen
        have hsn := HIN.out s hs
        rw [goneF_in hs] at hF
        obtain ⟨O', hM⟩ := HMI.out
        have hMa := hM.grown hg1 (fun r e => by
          obtain rfl : W.heap.size = r := by simpa using e
          exact ⟨Nat.le_of_lt (by omega), _, hiter, rfl⟩)
        obtain ⟨fb, hF2, hfb, nt, nv, sh, cv, A, cc, f1, f2, f3, f4, _⟩ := hMa.files s hsn (.inl hs)
        rw [hF] at hF2
        obtain rfl := Option.some.inj hF2
        have hDBa : DB wa db mb (D.room : Int) (u : Nat) (D.made : Int) D.fails := (hg1.block db HDB.out.lt (fun e => by
          have e' : db = W.heap.size := by simpa using e
          omega)).trans HDB.out
        have hDDa : wa.heap[Dd]? = some (.deferred (some [])) := (hg1.block Dd (Array.getElem?_eq_some_iff.1 HDD.out).1 (fun e => hDDne (by simpa using e))).trans HDD.out
        have hte := total_erase st hs
        have hsubE : ∀ x ∈ rest.erase s, x ∈ D.names := fun x hx => HIN.out x (List.mem_of_mem_erase hx)
        have hgd : g ≠ db := fun e => by
          have h1 := hMa.old db hdb
          rw [← e, f3, e, HC.out.odb] at h1
          cases h1
        have hgm : g ≠ mb := fun e => by
          have h1 := hMa.old mb hmb
          rw [← e, f3, e, HC.out.omb] at h1
          cases h1
        have hnr : rest.Nodup := hrng.2.1
        obtain ⟨sb, hsb⟩ : ∃ sb, (st s).isSome = sb := ⟨_, rfl⟩
        have f1' := f1
        rw [hsb] at f1'
        obtain ⟨⟨g0, g1, g2, g3, g4, g5⟩, gz⟩ := f1'.cells
        obtain ⟨⟨d0, d1, d2, d3, d4⟩, dz⟩ := hDBa.cells
        have hdbr := hDBa.lt
        have hgl := f1.lt
        have hmba : mb < wa.heap.size := by omega
        have hRa : W.heap.size < wa.heap.size := by omega
        have hl1 := hrng1.left
        cases sb with
        | true =>
          have HFS : Hid (∀ W2, Below wa.heap.size wa W2 → (∃ x, W2.cell? ⟨g, 0, none⟩ = some x) ∧ (∃ x, W2.cell? ⟨g, 1, none⟩ = some x) ∧ (∃ x, W2.cell? ⟨g, 2, none⟩ = some x) ∧ (∃ x, W2.cell? ⟨g, 3, none⟩ = some x) ∧ (∃ x, W2.cell? ⟨g, 4, none⟩ = some x) ∧ (∃ x, W2.cell? ⟨g, 5, none⟩ = some x) ∧ (W2.frozen? ⟨g, 0, none⟩ = false ∧ W2.frozen? ⟨g, 1, none⟩ = false ∧ W2.frozen? ⟨g, 2, none⟩ = false ∧ W2.frozen? ⟨g, 3, none⟩ = false ∧ W2.frozen? ⟨g, 4, none⟩ = false ∧ W2.frozen? ⟨g, 5, none⟩ = false) ∧
              Hid (Rng Tryz.prog 9 (setFile W2 g true (.slice A (szO (st s)) cc)) mb W.heap.size nm (goneF F st D.names (rest.erase s)) (rest.erase s) c1 ∧ DB (setFile W2 g true (.slice A (szO (st s)) cc)) db mb (D.room : Int) (u : Nat) (D.made : Int) D.fails ∧ (∃ O', Mid w O (db + 1) w2.heap.size D.names F st (rest.erase s) O' (setFile W2 g true (.slice A (szO (st s)) cc))) ∧
                (setFile W2 g true (.slice A (szO (st s)) cc)).heap[Dd]? = some (.deferred (some [])) ∧ FB (setFile W2 g true (.slice A (szO (st s)) cc)) g true (.slice A (szO (st s)) cc) true (.slice A (szO (st s)) cc) true (.slice none 0 0))) := Lib.hid fun W2 hB => by
            have f2' := f1.below hB
            obtain ⟨⟨h0, h1, h2, h3, h4, h5⟩, hz⟩ := f2'.cells
            have hoth : ∀ k, k < wa.heap.size → k ≠ g → (setFile W2 g true (.slice A (szO (st s)) cc)).heap[k]? = wa.heap[k]? := fun k hk hne => by rw [setFile_other hne, hB.block k hk]
            refine ⟨⟨_, h0⟩, ⟨_, h1⟩, ⟨_, h2⟩, ⟨_, h3⟩, ⟨_, h4⟩, ⟨_, h5⟩, ⟨hz 0, hz 1, hz 2, hz 3, hz 4, hz 5⟩, Lib.hid ⟨?_, ?_, ?_, ?_, ?_⟩⟩
            · have hne : st s ≠ none := fun e => by rw [e] at hsb; cases hsb
              rw [goneF_kept hne]
              exact hrng1.at (hoth mb hmba (Ne.symm hgm)) (hoth _ hRa (fun e => by omega))
            · exact (hoth db hdbr (Ne.symm hgd)).trans hDBa
            · exact ⟨O', hMa.settle hB hs hF hsb f1 f2 f3 f4 hfb⟩
            · exact (hoth Dd (Array.getElem?_eq_some_iff.1 hDDa).1 (fun e => by omega)).trans hDDa
            · exact setFile_file f2'
          have CS : Hid (∀ W, Calls Tryz.prog 32 #[.agg #[.bool true, .slice A (szO (st s)) cc]] W (SettledOut W true (.slice A (szO (st s)) cc))) := Lib.hid fun W => settled_calls true _ _ _ W
          obtain ⟨n2, hn2⟩ : ∃ n2, szO (st s) = n2 := ⟨_, rfl⟩
          rw [hn2] at HFS CS g3 hte
          have HU2 : Hid (u + n2 + total (rest.erase s) st = total D.names st) := Lib.hid (by have := HU.out; omega)
          have hub : u + n2 ≤ 4611686018427387904 := by have := HU2.out; omega
          have HSE := Lib.hid hsubE
          have HLT := Lib.hid (show c1 < c from hlt)
          have HL := Lib.hid (And.intro hleft hl1)
          clear hnx hen hrng hrng1 hF hlt hg1 hM hMa f1 f1' f2 f3 f4 hDBa hDDa hte hsubE hgd hgm hnr g0 g1 g4 g5 gz dz hsb hn2 hiter HU HIN HDD HMI HDB hleft hl1 hs hsn hs1 HSUB HST
          gi_wp2_with (first | (gi_at_next; refine wpListIn_next_ran rfl _ _ rfl rfl HNX.out ?_) | (refine wpListIn_entry_ran (o := ⟨some 46, _, _, _, _, _⟩) rfl _ rfl rfl HEN.out ?_))
          refine ⟨trivial, ?_⟩
          refine ((callsIn_wide.2 (CS.out _)).mono ?_).2
          rintro e W2 ⟨rfl, hB2⟩
          obtain ⟨⟨_, h0⟩, ⟨_, h1⟩, ⟨_, h2⟩, ⟨_, h3⟩, ⟨_, h4⟩, ⟨_, h5⟩, ⟨z0, z1, z2, z3, z4, z5⟩, HF⟩ := HFS.out W2 hB2
          clear HFS hB2 CS
          gi_wp2_with fail
          refine wpIn_wide.2 (opaque_post ?_)
          intro QQ hQQ
          have HQQ := Lib.hid hQQ
          clear hQQ
          obtain ⟨W3, hW3⟩ : ∃ W3, setFile W2 g true (.slice A n2 cc) = W3 := ⟨_, rfl⟩
          change Code.wp _ _ _ _ (setFile W2 g true (.slice A n2 cc))
          rw [hW3] at HF ⊢
          clear h0 h1 h2 h3 h4 h5 z0 z1 z2 z3 z4 z5 d0 d1 d2 d3 d4 g2 g3 hW3
          obtain ⟨p1, p2, p3, p4, p5⟩ := HF.out
          obtain ⟨⟨_, _, d2, _⟩, _⟩ := p2.cells
          obtain ⟨⟨_, g1, _⟩, _⟩ := p5.cells
          have D2 := cell_regrown d2
          have G1 := cell_regrown g1
          have HFIN : Hid (∀ wq, Below W3.heap.size W3 wq → wq.frozen? ⟨db, 2, none⟩ = false ∧ (∃ x, wq.cell? ⟨db, 2, none⟩ = some x) ∧
              Hid (Rng Tryz.prog 9 (wq.setCell ⟨db, 2, none⟩ (.int .i64 ((u + n2 : Nat) : Int))) mb W.heap.size nm (goneF F st D.names (rest.erase s)) (rest.erase s) c1 ∧ DB (wq.setCell ⟨db, 2, none⟩ (.int .i64 ((u + n2 : Nat) : Int))) db mb (D.room : Int) ((u + n2 : Nat) : Int) (D.made : Int) D.fails ∧ (∃ O', Mid w O (db + 1) w2.heap.size D.names F st (rest.erase s) O' (wq.setCell ⟨db, 2, none⟩ (.int .i64 ((u + n2 : Nat) : Int)))) ∧
                (wq.setCell ⟨db, 2, none⟩ (.int .i64 ((u + n2 : Nat) : Int))).heap[Dd]? = some (.deferred (some [])))) := Lib.hid fun wq hB => by
            have hDBq := p2.below hB
            obtain ⟨⟨_, _, q2, _⟩, qz⟩ := hDBq.cells
            obtain ⟨O2, p3⟩ := p3
            refine ⟨qz 2, ⟨_, q2⟩, Lib.hid ⟨?_, ?_, ⟨O2, (p3.below hB).core (grown_setCell _ _ _ _) hdb HC.out.odb⟩, ?_⟩⟩
            · exact p1.at ((Below.heap_setCell _ _ _ _ (Ne.symm hdbm)).trans (hB.block mb p1.map.lt)) ((Below.heap_setCell _ _ _ _ (by show W.heap.size ≠ db; omega)).trans (hB.block _ p1.iterLt))
            · exact (block_set hDBq 2 _).trans (by simp)
            · exact (Below.heap_setCell _ _ _ _ (by show Dd ≠ db; omega)).trans ((hB.block Dd (Array.getElem?_eq_some_iff.1 p4).1).trans p4)
          clear p1 p2 p3 p4 p5 HF d2 g1
          refine wp_region_quiet_tail (C := fun w' => ∃ p : Regrown, w' = grow (redrawn W3 p.d) p.os) 11 (by kernel_rfl) (by kernel_rfl) ⟨⟨W3.drawn + 1, #[]⟩, by rw [grow_empty]; rfl⟩ ?_
          simp only [List.take_succ_cons, List.take_zero, List.drop_succ_cons, List.drop_zero]
          repeat (go_big_quiet_step (fail))
          refine wpQuiet_nil ?_
          intro wq hq
          obtain ⟨⟨dq, osq⟩, rfl⟩ := hq
          obtain ⟨q1, ⟨_, q2⟩, HQ⟩ := HFIN.out _ (below_regrown W3 dq osq)
          clear HFIN D2 G1
          generalize grow (redrawn W3 dq) osq = wq at q1 q2 HQ ⊢
          go_wp2_with fail
          refine HQQ.out _ _ ?_
          clear HQQ
          gi_wp2_with fail
          go_roundw
          case rel =>
            obtain ⟨k1, k2, k3, k4⟩ := HQ.out
            exact ⟨rest.erase s, c1, u + n2, k1, Lib.hid k2, Lib.hid k3, HU2, HSE, Lib.hid k4⟩
          case measure => 
            obtain ⟨k1, k2, k3, k4⟩ := HQ.out
            have k5 := k1.left
            rw [Int.natCast_add] at k5
            rw [k5, HL.out.1]; exact HLT.out
        | false =>
          have hst0 : st s = none := by
            cases hq : st s with
            | none => rfl
            | some b => rw [hq] at hsb; cases hsb
          obtain ⟨wb, c2, hrun, hrng2, hle, hturn⟩ := hrng1.drop Tryz.underlying9 Tryz.underlying60 (hrng.2.2 s hs) (fun e => by rw [hnr.mem_erase_iff] at e; exact e.1 rfl) 0
          rw [goneF_gone hsn hnr hst0] at hrng2
          have hgrow := hturn.grown
          have hMb := (hMa.gone hnr hst0).core hgrow hmb HC.out.omb
          have hDBb : DB wb db mb (D.room : Int) (u : Nat) (D.made : Int) D.fails := (hgrow.block db hdbr (fun e => hdbm (by simpa using e))).trans hDBa
          have hDDb : wb.heap[Dd]? = some (.deferred (some [])) := (hgrow.block Dd (Array.getElem?_eq_some_iff.1 hDDa).1 (fun e => by
            have e' : Dd = mb := by simpa using e
            omega)).trans hDDa
          rw [hst0] at hte
          have HU2 : Hid (u + total (rest.erase s) st = total D.names st) := Lib.hid (by have := HU.out; simp only [szO] at hte; omega)
          have HE := Lib.hid (And.intro hrng2 (And.intro hDBb (And.intro hMb hDDb)))
          have hl2 := hrng2.left
          have HLT := Lib.hid (show c2 < c from Nat.lt_of_le_of_lt hle hlt)
          have HL := Lib.hid (And.intro hleft hl2)
          have HSE := Lib.hid hsubE
          clear hnx hen hrng hrng1 hrng2 hF hlt hle hg1 hM hMa hMb f1 f1' f2 f3 f4 hDBa hDBb hDDa hDDb hte hsubE hgd hgm hnr g0 g1 g3 g4 g5 gz dz hsb hiter HU HIN HDD HMI HDB hleft hl1 hl2 hs hsn hs1 HSUB HST hst0 hgrow hturn
          gi_wp2_with (first | (gi_at_next; refine wpListIn_next_ran rfl _ _ rfl rfl HNX.out ?_) | (refine wpListIn_entry_ran (o := ⟨some 46, _, _, _, _, _⟩) rfl _ rfl rfl HEN.out ?_))
          exact ⟨⟨rest.erase s, c2, u, HE.out.1, Lib.hid HE.out.2.1, Lib.hid ⟨_, HE.out.2.2.1⟩, HU2, HSE, Lib.hid HE.out.2.2.2⟩, by rw [HL.out.2, HL.out.1]; exact HLT.out⟩

theorem crash_calls (w : World) (O : Owner) (db : Nat) (D : DS) (h : DiskAt w O db D) (hw : WF D) (hmade : D.made ≤ 4294967296) (pv : Value) (picks : List Int) (hp : Ints (fun b => b < w.heap.size ∧ O b = none) w pv picks) :
    Calls Tryz.prog 15 #[.pointer (some ⟨db, 0, none⟩), pv] w (Crashed w O db D picks) := callsIn_wide.1 (crash_in 5 (Nat.le_refl _) w O db D h hw hmade pv picks hp)

end Go.Proofs.YtnhkpemajknfnaaGreatDoor.Disk
