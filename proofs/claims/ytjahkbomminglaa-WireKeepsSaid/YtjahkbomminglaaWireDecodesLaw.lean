/-
  The walk of the law WireDecodes.
-/
import Derived.Test.YtjahkbomminglaaWireDecode
import Derived.Test.YtjahkbomminglaaWireSame
import Derived.Test.YtjahkbomminglaaWireOpen
namespace Go.Proofs.Ytjahkbomminglaa.Wire
open Go Go.RowKit Go.Proofs.Ytjahkbomminglaa.Law

theorem Items.within {lo : Nat} {W W' : World} {v : Value} {l : List Item} (h : Items (fun b => lo ≤ b ∧ b < W.heap.size) W v l) (hB : Below W.heap.size W W') : Items (fun b => lo ≤ b ∧ b < W'.heap.size) W' v l :=
  h.keep (fun b hb => hB.block b hb.2) (fun _ hb => ⟨hb.1, Nat.lt_of_lt_of_le hb.2 hB.size⟩)

set_option maxRecDepth 100000 in
set_option maxHeartbeats 4000000 in
theorem wireDecodes_law (bs : List Nat) (hl : bs.length ≤ 140737488351232) (sv : Value) (w : World) (hI : Bytes w.heap.size w sv bs) :
    Calls Try.prog 4 #[sv] w fun e W => e = .returned (.bool true) ∧ Below w.heap.size w W := by
  have hfit := decR_fits hI.lt
  have cD := decode_calls bs (by omega) sv w hI
  obtain ⟨⟨l, er⟩, hR⟩ : ∃ R, decR bs = R := ⟨_, rfl⟩
  rw [hR] at cD hfit
  have hll := len_nodes l
  have CD := Lib.hid cD
  have HI := Lib.hid hI
  have HR := Lib.hid hR
  have HF := Lib.hid hfit
  clear cD hI hR hfit
  go_enter Try.func4, Try.ntmps4
  go_wp2_with fail
  refine CD.out.mono ?_
  rintro e w1 ⟨v1, rfl, B1, O1⟩
  obtain ⟨A1, c1, rfl, _⟩ := O1.form
  have hs1 := B1.size
  have cF := refdecode_calls bs (by omega) sv w1 (HI.out.on B1)
  rw [HR.out] at cF
  have CF := Lib.hid cF
  have HO1 := Lib.hid O1
  have HB1 := Lib.hid B1
  clear CD cF O1 B1
  go_wp2_with fail
  refine CF.out.mono ?_
  rintro e w2 ⟨v2, rfl, B2, O2⟩
  obtain ⟨A2, c2, rfl, _⟩ := O2.form
  have HB2 := Lib.hid (HB1.out.trans (B2.mono hs1))
  have HO1' := Lib.hid (HO1.out.within B2)
  have HO2 := Lib.hid O2
  have hs2 := HB2.out.size
  clear CF O2 B2 HO1 HB1
  go_wp2_with fail
  refine (known_calls w2).mono ?_
  rintro e w3 ⟨rfl, B3⟩
  have HB3 := Lib.hid (HB2.out.trans (B3.mono hs2))
  have HP1 := Lib.hid (HO1'.out.within B3)
  have HP2 := Lib.hid (HO2.out.within B3)
  clear B3 HB2 HO1' HO2
  go_wp2_with fail
  refine (refsame_calls (nodesL l + 1) l l (by omega) (by have := HF.out.2; omega) (by have := HF.out.2; omega) HF.out.1 HF.out.1 _ _ _ _ w3 HP1.out HP2.out).mono ?_
  rintro e W ⟨rfl, d, rfl⟩
  rw [eqB_true rfl]
  go_wp2
  go_ret
  exact ⟨rfl, below_drewN2 HB3.out d⟩

end Go.Proofs.Ytjahkbomminglaa.Wire
