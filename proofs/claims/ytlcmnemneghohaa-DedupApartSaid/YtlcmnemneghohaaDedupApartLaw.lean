/-
  The walk of DedupApart.
-/
import Derived.Test.YtlcmnemneghohaaDedupKnown
import Derived.Laws.StructEq
import Derived.ChangeKeysEq
namespace Go.Proofs.Ytlcmnemneghohaa.Dedup
open Go Go.RowKit Go.Lib Go.Sort Go.Shelf Go.Proofs Go.Proofs.Ytlcmnemneghohaa.Law

theorem eq_place (a b c d : Int) (w : World) : (Op.equalIn 10000 23 (.agg #[.int .i64 a, .int .i64 b]) (.agg #[.int .i64 c, .int .i64 d])).run Try.prog w = .ok (decide (a = c ∧ b = d)) w := by
  have ui := Try.underlying3
  have z3 := Try.sizeOf3
  have a3 := Try.isAgg3
  have hc : Try.prog.cellsOf 3 = 1 := by kernel_rfl
  have hi : ∃ i, Try.prog.info? 3 = some i := by
    cases h : Try.prog.info? 3 with
    | none => have : (Try.prog.info? 3).isSome = true := by kernel_rfl
              rw [h] at this; cases this
    | some i => exact ⟨i, rfl⟩
  obtain ⟨i, hi⟩ := hi
  rw [show (10000 : Nat) = 9999 + 1 from rfl, run_equalIn_array (P := Try.prog) (w := w) 9999 _ _ Try.underlying23 hi, hc]
  have r2 : List.range 2 = [0, 1] := rfl
  rw [r2]
  by_cases h1 : a = c
  · by_cases h2 : b = d
    · subst h1 h2
      rw [decide_eq_true ⟨rfl, rfl⟩]
      simp only [Op.eqItems]
      go_simp
    · subst h1
      rw [decide_eq_false (fun h => h2 h.2)]
      simp only [Op.eqItems]
      go_simp
  · rw [decide_eq_false (fun h => h1 h.1)]
    simp only [Op.eqItems]
    go_simp

theorem last_takeL {l : List Rw} (h : Good l) {p q s p' q' : Int} (hne : ¬ (p' = p ∧ q' = q)) : lastL (takeL l p q s).1 p' q' = lastL l p' q' := by
  unfold takeL
  split
  · rename_i hr
    split
    · exact last_other h hr hne
    · rfl
  · rfl

set_option maxRecDepth 1000000 in
set_option maxHeartbeats 8000000 in
theorem dedupApart_law (l : List Rw) (hwf : ∀ x ∈ l, wfRw x) (hl : l.length * 24 ≤ 140737488351232) (a b c d seq : Int) (hs : i64 seq) (v : Value) (w : World) (h : OldW w.heap.size w v l) :
    Calls Try.prog 6 #[v, .agg #[.int .i64 a, .int .i64 b], .agg #[.int .i64 c, .int .i64 d, .int .i64 seq]] w fun e W' => e = .returned (.bool true) ∧ Below w.heap.size w W' := by
  obtain ⟨W1, hW1⟩ : ∃ W1, (w.alloc (.cells #[.int .i64 a, .int .i64 b] 23)).alloc (.cells #[.int .i64 c, .int .i64 d, .int .i64 seq] 39) = W1 := ⟨_, rfl⟩
  have hB1 : Below w.heap.size w W1 := by rw [← hW1]; exact ((Below.refl _ _).alloc (Nat.le_refl _) _).alloc (by simp) _
  obtain ⟨q, hq⟩ : ∃ q, w.heap.size = q := ⟨_, rfl⟩
  have hx : W1.heap[q]? = some (.cells #[.int .i64 a, .int .i64 b] 23) := by rw [← hW1, ← hq]; exact (Below.heap_alloc _ _ _ (by simp)).trans (heap_alloc_new w _)
  have hy : W1.heap[q + 1]? = some (.cells #[.int .i64 c, .int .i64 d, .int .i64 seq] 39) := by
    rw [← hW1, ← hq]
    have := heap_alloc_new (w.alloc (.cells #[.int .i64 a, .int .i64 b] 23)) (.cells #[.int .i64 c, .int .i64 d, .int .i64 seq] 39)
    rwa [World.size_alloc] at this
  have hlt : q + 1 < W1.heap.size := lt_of_some hy
  have hltx : q < W1.heap.size := by omega
  have h1 : OldW W1.heap.size W1 v l := ThreeAt.on hB1 h
  have hm : l.length ≤ 281474976710656 := by omega
  have CK := Lib.hid (known_calls W1)
  have CG := Lib.hid fun (W : World) (hW : Below W1.heap.size W1 W) => refGood_calls l hm v W (ThreeAt.on hW h1)
  have CT := Lib.hid fun (hg : Good l) (W : World) (hW : Below W1.heap.size W1 W) => take_calls l hg a b seq v W (by omega) (ThreeAt.on hW h1) (wf_last hwf a b) hs
  have HB := Lib.hid hB1
  have HW := Lib.hid hW1
  have HQ := Lib.hid hq
  have HLT := Lib.hid hlt
  have HCE : Hid (∀ W : World, Below W1.heap.size W1 W → W.cell? ⟨q, 0, none⟩ = some (.int .i64 a) ∧ W.cell? ⟨q, 1, none⟩ = some (.int .i64 b)) := Lib.hid fun W hW => by
    have := (hW.block _ hltx).trans hx
    exact ⟨by simp [World.cell?, this], by simp [World.cell?, this]⟩
  have HCY : Hid (∀ W : World, Below W1.heap.size W1 W → W.cell? ⟨q + 1, 0, none⟩ = some (.int .i64 c) ∧ W.cell? ⟨q + 1, 1, none⟩ = some (.int .i64 d) ∧ W.cell? ⟨q + 1, 2, none⟩ = some (.int .i64 seq)) := Lib.hid fun W hW => by
    have := (hW.block _ hlt).trans hy
    exact ⟨by simp [World.cell?, this], by simp [World.cell?, this], by simp [World.cell?, this]⟩
  obtain ⟨A, cap, rfl, _⟩ := h.form
  have H1 := Lib.hid h1
  have HWF := Lib.hid hwf
  have HS := Lib.hid hs
  have HM := Lib.hid hm
  have HLL := Lib.hid hl
  clear hB1 hW1 hx hy hlt hltx h1 hm hwf hl hs h
  go_enter Try.func6, Try.ntmps6
  go_wp2_with fail
  rw [HW.out]
  refine CK.out.mono ?_
  rintro e W2 ⟨rfl, hB2⟩
  have HB2 := Lib.hid hB2
  clear hB2 CK
  obtain ⟨y0, y1, y2⟩ := HCY.out W2 HB2.out
  obtain ⟨t0, t1, t2⟩ := HCY.out (W2.alloc (.cells #[.int .i64 0, .int .i64 0] 23)) (HB2.out.trans ((alloc_low W2 _).mono HB2.out.size))
  obtain ⟨s0, s1, s2⟩ := HCY.out (W2.alloc (.cells #[.int .i64 c, .int .i64 d] 23)) (HB2.out.trans ((alloc_low W2 _).mono HB2.out.size))
  go_wp2_with fail
  go_region
  obtain ⟨r3, hr3⟩ : ∃ r3, W2.heap.size = r3 := ⟨_, rfl⟩
  obtain ⟨W3, hW3⟩ : ∃ W3, (W2.alloc (.cells #[.int .i64 c, .int .i64 d] 23)).drew = W3 := ⟨_, rfl⟩
  have hB3 : Below W2.heap.size W2 W3 := by
    rw [← hW3]
    have h := alloc_low W2 (.cells #[.int .i64 c, .int .i64 d] 23)
    exact ⟨h.os, h.tape, h.output, h.size, h.block⟩
  have hb3 : W3.heap[r3]? = some (.cells #[.int .i64 c, .int .i64 d] 23) := by rw [← hW3, ← hr3]; exact heap_alloc_new W2 _
  have HB3 := Lib.hid (HB2.out.trans (hB3.mono HB2.out.size))
  have HCO : Hid (∀ W : World, Below W3.heap.size W3 W → W.cell? ⟨r3, 0, none⟩ = some (.int .i64 c) ∧ W.cell? ⟨r3, 1, none⟩ = some (.int .i64 d)) := Lib.hid fun W hW => by
    have := (hW.block _ (lt_of_some hb3)).trans hb3
    exact ⟨by simp [World.cell?, this], by simp [World.cell?, this]⟩
  have HW3 := Lib.hid hW3
  have HR3 := Lib.hid hr3
  clear hW3 hr3 hB3 hb3 y0 y1 y2 t0 t1 t2 s0 s1 s2
  rw [HW3.out, HR3.out]
  go_wp2_with fail
  refine (CG.out W3 HB3.out).mono ?_
  rintro e W4 ⟨rfl, hB4⟩
  have HB34 := Lib.hid hB4
  have HB4 := Lib.hid (HB3.out.trans (hB4.mono HB3.out.size))
  clear hB4 CG
  cases hg : goodR l with
  | false =>
    go_wp2_with fail
    go_ret
    exact ⟨rfl, HB.out.trans (HB4.out.mono HB.out.size)⟩
  | true =>
    have HG : Hid (Good l) := Lib.hid ((goodR_iff l).1 hg)
    obtain ⟨c0, c1⟩ := HCE.out W4 HB4.out
    obtain ⟨d0, d1⟩ := HCO.out W4 HB34.out
    have he := eq_place a b c d
    have hgd : Try.prog.eqGuardType Try.prog.depth 23 = false := by kernel_rfl
    clear hg
    by_cases hab : a = c ∧ b = d
    · obtain ⟨rfl, rfl⟩ := hab
      rw [decide_eq_true ⟨rfl, rfl⟩] at he
      go_wp2_with fail
      go_ret
      exact ⟨rfl, HB.out.trans (HB4.out.mono HB.out.size)⟩
    · rw [decide_eq_false hab] at he
      have HNE : Hid (¬ (c = a ∧ d = b)) := Lib.hid fun h => hab ⟨h.1.symm, h.2.symm⟩
      clear hab
      go_wp2_with fail
      refine (CT.out HG.out W4 HB4.out).mono ?_
      rintro e W5 ⟨v5, rfl, hO5, hB5⟩
      have hB45 := hB5
      have HB5 := Lib.hid (HB4.out.trans (hB5.mono HB4.out.size))
      obtain ⟨f0, f1⟩ := HCO.out W5 (HB34.out.trans (hB5.mono HB34.out.size))
      have h5 : OldW W5.heap.size W5 (.slice A l.length cap) l := ThreeAt.on HB5.out H1.out
      have hR1 : ∀ d' os, OldW (grow (redrawn W5 d') os).heap.size (grow (redrawn W5 d') os) (.slice A l.length cap) l := fun d' os => ThreeAt.on (below_regrown W5 d' os) h5
      have hR2 : ∀ d' os, OldW (grow (redrawn W5 d') os).heap.size (grow (redrawn W5 d') os) v5 (takeL l a b seq).1 := fun d' os => ThreeAt.on (below_regrown W5 d' os) hO5.old
      have hm2 : (takeL l a b seq).1.length ≤ 281474976710656 := by have := takeL_len l a b seq; have := HLL.out; omega
      have k1 := fun d' os => Calls.regrown_of (d := d') (os := os) (last_calls _ c d v5 _ hm2 (hR2 d' os))
      have k2 := fun d' os => Calls.regrown_of (d := d') (os := os) (last_calls l c d _ _ HM.out (hR1 d' os))
      have k3 := fun d' os => Calls.regrown_of (d := d') (os := os) (look_calls _ c d seq v5 _ hm2 (hR2 d' os) (wf_last (takeL_wf HWF.out HS.out) c d) HS.out)
      have k4 := fun d' os => Calls.regrown_of (d := d') (os := os) (look_calls l c d seq _ _ HM.out (hR1 d' os) (wf_last HWF.out c d) HS.out)
      rw [last_takeL HG.out HNE.out] at k1 k3
      generalize lookL (lastL l c d) seq = z2 at k3 k4
      generalize lastL l c d = z1 at k1 k2
      have K1 := Lib.hid k1
      have K2 := Lib.hid k2
      have K3 := Lib.hid k3
      have K4 := Lib.hid k4
      have u0 := fun d' os => cell_regrown f0 d' os
      have u1 := fun d' os => cell_regrown f1 d' os
      have e1 : (z1 == z1) = true := beq_self_eq_true _
      have e2 : (z2 == z2) = true := beq_self_eq_true _
      obtain ⟨A5, k5, rfl, _⟩ := hO5.form
      generalize (takeL l a b seq).1.length = m5 at K1 K2 K3 K4 ⊢
      clear k1 k2 k3 k4 hm2 hR1 hR2 h5 hO5 hB5 hB45 f0 f1 c0 c1 d0 d1 he hgd CT
      go_wp2_with fail
      refine wp_region_quiet_below (by kernel_rfl) (by kernel_rfl) ?_
      repeat (go_big_quiet_step ((first | with_reducible exact K1.out _ _ | with_reducible exact K2.out _ _ | with_reducible exact K3.out _ _ | with_reducible exact K4.out _ _)))
      refine wpQuiet_nil ?_
      intro w' hw'
      obtain ⟨⟨d', os⟩, rfl⟩ := hw'
      have HF : Hid (Below w.heap.size w (grow (redrawn W5 d') os)) := Lib.hid (HB.out.trans ((HB5.out.trans ((below_regrown W5 d' os).mono HB5.out.size)).mono HB.out.size))
      generalize grow (redrawn W5 d') os = w6 at HF ⊢
      go_wp2_with fail
      go_ret
      exact ⟨rfl, HF.out⟩

end Go.Proofs.Ytlcmnemneghohaa.Dedup
