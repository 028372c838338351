/-
  The walk of the law WireEncodes.
-/
import Derived.Test.YtjeklbgonnbocaaWireRefEncode
import Derived.Test.YtjeklbgonnbocaaWireKnown
import Derived.Test.YtjeklbgonnbocaaWireOpen
namespace Go.Proofs.Ytjeklbgonnbocaa.Wire
open Go Go.RowKit Go.Proofs.Ytjeklbgonnbocaa.Law

set_option maxRecDepth 100000 in
set_option maxHeartbeats 4000000 in
theorem wireEncodes_law (l : List Item) (hF : Fits l) (sv : Value) (w : World) (hI : Old w.heap.size w sv l) :
    Calls Try.prog 3 #[sv] w fun e W => e = .returned (.bool true) ∧ Below w.heap.size w W := by
  have hlong : l.length ≤ 9223372036854775807 := by have := hF.2.2; omega
  have cE := encode_calls l hF.1 hlong sv w hI
  obtain ⟨⟨bs, er⟩, hR⟩ : ∃ R, encN l = R := ⟨_, rfl⟩
  rw [hR] at cE
  have CE := Lib.hid cE
  have HI := Lib.hid hI
  have HR := Lib.hid hR
  clear cE hI hR
  go_enter Try.func3, Try.ntmps3
  go_wp2_with fail
  refine CE.out.mono ?_
  rintro e w1 ⟨v1, rfl, O1, B1⟩
  have hs1 := B1.size
  have cF := refencode_calls l hF.1 hlong sv w1 (HI.out.on B1)
  rw [HR.out] at cF
  have CF := Lib.hid cF
  have HO1 := Lib.hid O1
  have HB1 := Lib.hid B1
  clear CE cF O1 B1
  go_wp2_with fail
  refine CF.out.mono ?_
  rintro e w2 ⟨v2, rfl, O2, B2⟩
  have HB2 := Lib.hid (HB1.out.trans (B2.mono hs1))
  have HO1' := Lib.hid (HO1.out.below B2)
  have HO2 := Lib.hid O2
  have hs2 := HB2.out.size
  clear CF O2 B2 HO1 HB1
  go_wp2_with fail
  refine (known_calls w2).mono ?_
  rintro e w3 ⟨rfl, B3⟩
  have HB3 := Lib.hid (HB2.out.trans (B3.mono hs2))
  have HP1 := Lib.hid (HO1'.out.below B3).bytes
  have HP2 := Lib.hid (HO2.out.below B3).bytes
  clear B3 HB2 HO1' HO2
  go_wp2_with fail
  refine (same_true v1 v2 bs w3 HP1.out HP2.out).mono ?_
  rintro e W ⟨rfl, rfl⟩
  go_wp2
  go_ret
  exact ⟨rfl, HB3.out⟩

end Go.Proofs.Ytjeklbgonnbocaa.Wire
