/-
  The document's own Encode.
-/
import Derived.Test.YtffehnojcajhiaaEgW
import Derived.Test.YtffehnojcajhiaaWireEncode
namespace Go.Proofs.Ytffehnojcajhiaa.Wire
open Go Go.RowKit Go.Proofs.Ytffehnojcajhiaa.Law

set_option maxRecDepth 100000 in
set_option maxHeartbeats 4000000 in
theorem refencode_calls (l : List Item) (hsz : sizedL l) (hlong : l.length ≤ 9223372036854775807) (sv : Value) (w : World) (hI : Old w.heap.size w sv l) :
    Calls Try.prog 19 #[sv] w (Encoded w.heap.size w (encN l)) := by
  obtain ⟨⟨c', e'⟩, hR⟩ : ∃ R, chkL 1 0 l = R := ⟨_, rfl⟩
  have cC := check_calls (nodesL l + 1) l (by omega) hsz hlong sv 1 0 w.heap.size w hI (Nat.le_refl _) (by omega) (by omega)
  rw [hR] at cC
  obtain ⟨base, hbase⟩ : ∃ b, w.heap.size = b := ⟨_, rfl⟩
  rw [hbase] at hI ⊢
  have CC := Lib.hid cC
  have HI := Lib.hid hI
  have HR := Lib.hid hR
  have HBS := Lib.hid hbase
  clear cC hI hR hbase
  go_enter Try.func19, Try.ntmps19
  go_wp2_with fail
  refine CC.out.mono ?_
  rintro e w1 ⟨rfl, B1⟩
  rw [HBS.out] at B1
  have HB1 := Lib.hid B1
  have hs1 : base ≤ w1.heap.size := by have := B1.size; rw [HBS.out] at this; exact this
  clear CC B1
  by_cases he : e' = 0
  · subst he
    have hok := chkL_ok 1 0 l (by rw [HR.out])
    have hnode : nodesL l ≤ 4096 := by rcases hok.2.2 with h | h <;> omega
    have hst := strsL_sized l hsz
    have cS := size_calls (nodesL l + 1) l (by omega) hlong (by omega) hsz sv _ w1 (Items.low HB1.out HI.out)
    obtain ⟨z, hz⟩ : ∃ z, sizF 0 l = z := ⟨_, rfl⟩
    rw [hz] at cS
    have CS := Lib.hid cS
    have HZ := Lib.hid hz
    have HFN := Lib.hid hok.2.1
    clear cS hok hst hz
    go_wp2_with fail
    refine CS.out.mono ?_
    rintro e w2 ⟨rfl, hd⟩
    have hB2 : Below base w w2 := by
      obtain ⟨d, rfl⟩ := hd
      exact HB1.out.trans ⟨rfl, rfl, rfl, Nat.le_refl _, fun _ _ => rfl⟩
    have hs2 : base ≤ w2.heap.size := by obtain ⟨d, rfl⟩ := hd; exact hs1
    have HB2 := Lib.hid hB2
    clear hd CS hB2
    by_cases hbig : 65536 < z
    · have hE : encN l = ([], 2) := by
        have h1 := sizF_le 0 l
        have h2 := strsL_le l
        rw [HZ.out] at h1
        unfold encN; rw [HR.out, if_neg (by simp), if_pos (by omega)]
      have HE := Lib.hid hE
      have hbI : 65536 < (z : Int) := by omega
      clear hE
      go_wp2_with fail
      go_ret2
      rw [HE.out]
      exact ⟨_, rfl, ownB_nil _ _ _, HB2.out⟩
    · have hlen : (bytesL l).length ≤ 11 * 4096 + 65536 := by
        have h1 := sizF_is 0 l (by rw [HZ.out]; omega)
        have h2 := bytesL_le l
        rw [HZ.out] at h1
        omega
      have cB := refbytes_calls (nodesL l + 1) l (by omega) hsz HFN.out (by omega) sv base w2 (Items.low HB2.out HI.out) hs2
      have CB := Lib.hid cB
      have hbI : (z : Int) ≤ 65536 := by omega
      clear cB
      go_wp2_with fail
      refine CB.out.mono ?_
      rintro e w3 ⟨v3, rfl, O3, A3⟩
      have hB3 := HB2.out.trans A3.low
      obtain ⟨A, cap, rfl⟩ := O3.bytes.form
      obtain ⟨bl, hbl⟩ : ∃ bl, (bytesL l).length = bl := ⟨_, rfl⟩
      rw [hbl] at O3 hlen ⊢
      have HO3 := Lib.hid O3
      have HB3 := Lib.hid hB3
      have HBL := Lib.hid hbl
      clear O3 hB3 hbl A3 CB HB2
      by_cases hbig2 : 65536 < bl
      · have hE : encN l = ([], 2) := by unfold encN; rw [HR.out, if_neg (by simp), if_pos (by rw [HBL.out]; exact hbig2)]
        have HE := Lib.hid hE
        have hbI2 : 65536 < (bl : Int) := by omega
        clear hE
        go_wp2_with fail
        go_ret2
        rw [HE.out]
        exact ⟨_, rfl, ownB_nil _ _ _, HB3.out⟩
      · have hE : encN l = (bytesL l, 0) := by unfold encN; rw [HR.out, if_neg (by simp), if_neg (by rw [HBL.out]; exact hbig2)]
        have HE := Lib.hid hE
        have hbI2 : (bl : Int) ≤ 65536 := by omega
        clear hE
        go_wp2_with fail
        go_ret2
        rw [HE.out]
        exact ⟨_, rfl, HO3.out, HB3.out⟩
  · have hE : encN l = ([], e') := by unfold encN; rw [HR.out, if_pos he]
    have HE := Lib.hid hE
    have heI : ¬ (e' : Int) = 0 := by omega
    clear hE he
    go_wp2_with fail
    go_ret2
    rw [HE.out]
    exact ⟨_, rfl, ownB_nil _ _ _, HB1.out⟩

end Go.Proofs.Ytffehnojcajhiaa.Wire
