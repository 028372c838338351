/-
  The statement's own comparison by text.
-/
import Derived.Test.YtjahkbomminglaaWireBackLaw
import Derived.Test.YtjahkbomminglaaWireRefEncode
namespace Go.Proofs.Ytjahkbomminglaa.Wire
open Go Go.RowKit Go.Proofs.Ytjahkbomminglaa.Law

set_option maxRecDepth 100000 in
set_option maxHeartbeats 8000000 in
theorem alike_calls (a b : List Item) (hA : sizedL a) (hB : sizedL b) (hla : a.length ≤ 9223372036854775807) (hlb : b.length ≤ 9223372036854775807) (h1 : (encN a).2 = 0) (h2 : (encN b).2 = 0) (sv tv : Value) (w : World) (hI : Old w.heap.size w sv a) (hJ : Old w.heap.size w tv b) :
    Calls Try.prog 24 #[sv, tv] w fun e W => e = .returned (.bool (eqB a b)) ∧ Below w.heap.size w W := by
  obtain ⟨q, hq⟩ : ∃ q, eqB a b = q := ⟨_, rfl⟩
  rw [hq]
  have HQ := Lib.hid hq
  have cE := refencode_calls a hA hla sv w hI
  have dA := decR_enc hA h1
  have dB := decR_enc hB h2
  have sA := encN_short a
  have sB := encN_short b
  obtain ⟨⟨xs, ea⟩, hRa⟩ : ∃ R, encN a = R := ⟨_, rfl⟩
  obtain ⟨⟨ys, eb⟩, hRb⟩ : ∃ R, encN b = R := ⟨_, rfl⟩
  rw [hRa] at cE dA sA
  rw [hRb] at dB sB
  have CE := Lib.hid cE
  have HI := Lib.hid hI
  have HJ := Lib.hid hJ
  have HRb := Lib.hid hRb
  have HDA := Lib.hid dA
  have HDB := Lib.hid dB
  have HSA := Lib.hid sA
  have HSB := Lib.hid sB
  have HA := Lib.hid hA
  have HB := Lib.hid hB
  clear cE hI hJ hRa hRb dA dB sA sB h1 h2 hA hB hq
  go_enter Try.func24, Try.ntmps24
  go_wp2_with fail
  refine CE.out.mono ?_
  rintro e w1 ⟨v1, rfl, O1, B1⟩
  have hs1 := B1.size
  have cF := refencode_calls b HB.out hlb tv w1 (HJ.out.on B1)
  rw [HRb.out] at cF
  have CF := Lib.hid cF
  have HO1 := Lib.hid O1
  have HB1 := Lib.hid B1
  clear CE cF O1 B1
  go_wp2_with fail
  refine CF.out.mono ?_
  rintro e w2 ⟨v2, rfl, O2, B2⟩
  have HB2 := Lib.hid (HB1.out.trans (B2.mono hs1))
  have hs2 := HB2.out.size
  have cG := refdecode_calls xs (by have h : xs.length ≤ 65536 := HSA.out; omega) v1 w2 (HO1.out.below B2).bytes
  rw [show decR xs = (a, 0) from HDA.out] at cG
  have CG := Lib.hid cG
  have HO2 := Lib.hid O2.bytes
  clear CF B2 O2 HB1 HO1 cG
  go_wp2_with fail
  refine CG.out.mono ?_
  clear CG
  rintro e w3 ⟨v3, rfl, B3, O3⟩
  obtain ⟨A3, c3, rfl, _⟩ := O3.form
  have HB3 := Lib.hid (HB2.out.trans (B3.mono hs2))
  have hs3 := HB3.out.size
  have cK := refdecode_calls ys (by have h : ys.length ≤ 65536 := HSB.out; omega) v2 w3 (HO2.out.on B3)
  rw [show decR ys = (b, 0) from HDB.out] at cK
  have CK := Lib.hid cK
  have HO3 := Lib.hid O3
  clear B3 O3 HB2 HO2 cK
  go_wp2_with fail
  refine CK.out.mono ?_
  clear CK
  rintro e w4 ⟨v4, rfl, B4, O4⟩
  obtain ⟨A4, c4, rfl, _⟩ := O4.form
  have HB4 := Lib.hid (HB3.out.trans (B4.mono hs3))
  have HO3' := Lib.hid (HO3.out.within B4)
  have HO4 := Lib.hid O4
  clear B4 O4 HB3 HO3
  go_wp2_with fail
  refine (refsame_calls (nodesL a + 1) a b (by omega) hla hlb HA.out HB.out _ _ _ _ w4 HO3'.out HO4.out).mono ?_
  rintro e W ⟨rfl, d, rfl⟩
  have HB5 := Lib.hid (below_drewN2 HB4.out d)
  clear HB4 HO3' HO4
  rw [HQ.out]
  go_wp2_with fail
  go_ret
  exact ⟨rfl, HB5.out⟩

end Go.Proofs.Ytjahkbomminglaa.Wire
