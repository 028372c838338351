/-
  The walk of DedupTakes.
-/
import Derived.Test.YtlcmnemneghohaaDedupKnown
namespace Go.Proofs.Ytlcmnemneghohaa.Dedup
open Go Go.RowKit Go.Lib Go.Sort Go.Shelf Go.Proofs Go.Proofs.Ytlcmnemneghohaa.Law

set_option maxRecDepth 1000000 in
set_option maxHeartbeats 8000000 in
theorem dedupTakes_law (l : List Rw) (hwf : ∀ x ∈ l, wfRw x) (hl : l.length * 24 ≤ 140737488351232) (a b seq : Int) (hs : i64 seq) (v : Value) (w : World) (h : OldW w.heap.size w v l) :
    Calls Try.prog 4 #[v, .agg #[.int .i64 a, .int .i64 b], .int .i64 seq] w fun e W' => e = .returned (.bool true) ∧ Below w.heap.size w W' := by
  obtain ⟨W1, hW1⟩ : ∃ W1, w.alloc (.cells #[.int .i64 a, .int .i64 b] 23) = W1 := ⟨_, rfl⟩
  have hB1 : Below w.heap.size w W1 := by rw [← hW1]; exact alloc_low _ _
  have hx : W1.heap[w.heap.size]? = some (.cells #[.int .i64 a, .int .i64 b] 23) := by rw [← hW1]; exact heap_alloc_new w _
  have hlt : w.heap.size < W1.heap.size := lt_of_some hx
  have HX := Lib.hid hx
  have h1 : OldW W1.heap.size W1 v l := ThreeAt.on hB1 h
  have hm : l.length ≤ 281474976710656 := by omega
  have CK := Lib.hid (known_calls W1)
  have CG := Lib.hid fun (W : World) (hW : Below W1.heap.size W1 W) => refGood_calls l hm v W (ThreeAt.on hW h1)
  have CT := Lib.hid fun (hg : Good l) (W : World) (hW : Below W1.heap.size W1 W) => take_calls l hg a b seq v W (by omega) (ThreeAt.on hW h1) (wf_last hwf a b) hs
  have CR := Lib.hid fun (hg : Good l) (W : World) (hW : Below W1.heap.size W1 W) => refTake_calls l hg a b seq v W (by omega) (ThreeAt.on hW h1) (wf_last hwf a b) hs
  have HLEN := Lib.hid (show (takeL l a b seq).1.length ≤ 281474976710656 by have := takeL_len l a b seq; omega)
  have HB := Lib.hid hB1
  have HW := Lib.hid hW1
  have HLT := Lib.hid hlt
  have HCE : Hid (∀ W : World, Below W1.heap.size W1 W → W.cell? ⟨w.heap.size, 0, none⟩ = some (.int .i64 a) ∧ W.cell? ⟨w.heap.size, 1, none⟩ = some (.int .i64 b)) := Lib.hid fun W hW => by
    have := (hW.block _ hlt).trans hx
    exact ⟨by simp [World.cell?, this], by simp [World.cell?, this]⟩
  obtain ⟨A, cap, rfl, _⟩ := h.form
  clear hB1 hW1 hx hlt h1 hm hwf hl hs h
  go_enter Try.func4, Try.ntmps4
  go_wp2_with fail
  rw [HW.out]
  refine CK.out.mono ?_
  rintro e W2 ⟨rfl, hB2⟩
  have HB2 := Lib.hid hB2
  clear hB2 CK
  go_wp2_with fail
  refine (CG.out W2 HB2.out).mono ?_
  rintro e W3 ⟨rfl, hB3⟩
  have HB3 := Lib.hid (HB2.out.trans (hB3.mono HB2.out.size))
  clear hB3 CG
  cases hg : goodR l with
  | false =>
    go_wp2_with fail
    go_ret
    exact ⟨rfl, HB.out.trans (HB3.out.mono HB.out.size)⟩
  | true =>
    have HG : Hid (Good l) := Lib.hid ((goodR_iff l).1 hg)
    obtain ⟨c0, c1⟩ := HCE.out W3 HB3.out
    clear hg
    go_wp2_with fail
    refine (CT.out HG.out W3 HB3.out).mono ?_
    rintro e W4 ⟨v4, rfl, hO4, hB4⟩
    have HB4 := Lib.hid (HB3.out.trans (hB4.mono HB3.out.size))
    have HO4 := Lib.hid hO4
    clear hB4 hO4 CT c0 c1
    obtain ⟨c0, c1⟩ := HCE.out W4 HB4.out
    obtain ⟨A4, k4, rfl, _⟩ := HO4.out.form
    go_wp2_with fail
    refine (CR.out HG.out W4 HB4.out).mono ?_
    rintro e W5 ⟨v5, rfl, hO5, hB5⟩
    have HB5 := Lib.hid (HB4.out.trans (hB5.mono HB4.out.size))
    have HO5 := Lib.hid hO5
    have hO4 : OldW W5.heap.size W5 _ _ := ThreeAt.on hB5 HO4.out.old
    have CS := refSame_calls _ _ HLEN.out HLEN.out _ _ W5 hO4 hO5.old
    rw [decide_eq_true rfl] at CS
    have CS := Lib.hid CS
    have CGC := Lib.hid fun (W : World) (hW : Below W5.heap.size W5 W) => good_calls _ HLEN.out _ W (ThreeAt.on hW hO4)
    rw [(goodC_iff _).2 (takeL_good HG.out a b seq)] at CGC
    obtain ⟨A5, k5, rfl, _⟩ := HO5.out.form
    have e2 : ((takeL l a b seq).2 == (takeL l a b seq).2) = true := beq_self_eq_true _
    generalize (takeL l a b seq).2 = z at e2 ⊢
    generalize (takeL l a b seq).1.length = m at CS CGC ⊢
    clear hB5 hO5 hO4 CR c0 c1
    go_wp2_with fail
    refine CS.out.mono ?_
    rintro e W6 ⟨rfl, hB6⟩
    have HB6 := Lib.hid hB6
    clear hB6
    go_wp2_with fail
    refine (CGC.out W6 HB6.out).mono ?_
    rintro e W7 ⟨rfl, hB7⟩
    have HB7 := Lib.hid (HB5.out.trans ((HB6.out.trans (hB7.mono HB6.out.size)).mono HB5.out.size))
    clear hB7
    go_wp2_with fail
    go_ret
    exact ⟨rfl, HB.out.trans (HB7.out.mono HB.out.size)⟩

end Go.Proofs.Ytlcmnemneghohaa.Dedup
