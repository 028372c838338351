/-
  The program's own Decode.
-/
import Derived.Test.YtffehnojcajhiaaWireMessage
import Derived.Test.YtffehnojcajhiaaWireDecMath
import Derived.Test.YtffehnojcajhiaaWireRefDecode
namespace Go.Proofs.Ytffehnojcajhiaa.Wire
open Go Go.RowKit Go.Proofs.Ytffehnojcajhiaa.Law

set_option maxRecDepth 100000 in
set_option maxHeartbeats 4000000 in
theorem decode_calls (bs : List Nat) (hlong : bs.length ≤ 140737488355000) (sv : Value) (w : World) (hI : Bytes w.heap.size w sv bs) :
    Calls Try.prog 24 #[sv] w (Decoded w.heap.size w (decR bs)) := by
  obtain ⟨A, cap, rfl⟩ := hI.form
  obtain ⟨len, hlen⟩ : ∃ len, bs.length = len := ⟨_, rfl⟩
  obtain ⟨R, hRR⟩ : ∃ R, decR bs = R := ⟨_, rfl⟩
  rw [hRR]
  rw [hlen] at hI hlong ⊢
  by_cases hbig : 65536 < len
  · have hR : R = ([], 2) := by rw [← hRR, decR, decN, if_pos (by rw [hlen]; exact hbig)]; rfl
    have HR := Lib.hid hR
    have hbI : 65536 < (len : Int) := by omega
    clear hR hI hlen hRR
    go_enter Try.func24, Try.ntmps24
    go_wp2_with fail
    go_ret2
    rw [HR.out]
    exact ⟨.slice none 0 0, rfl, Below.refl _ _, .nil none 0 _ (fun _ => rfl) rfl⟩
  · have hR : decOf (unw [] [] 0 0 bs) = R := by rw [← hRR, decR, decN, if_neg (by rw [hlen]; exact hbig)]; rfl
    have hbI : (len : Int) ≤ 65536 := by omega
    have hB := (Below.refl w.heap.size w).alloc (Nat.le_refl _) (.cells #[.slice A len cap] 82)
    have cM := message_calls w.heap.size w.heap.size (.slice A len cap) bs (by omega) (w.alloc (.cells #[.slice A len cap] 82)) (heap_alloc_new w _) (hI.below hB) (Nat.le_refl _)
    rw [hR] at cM
    have HCM := Lib.hid cM
    clear cM hR hRR hI hlen hB
    go_enter Try.func24, Try.ntmps24
    go_wp2_with fail
    refine HCM.out.mono ?_
    clear HCM
    rintro e W ⟨u, rfl, hG, hu⟩
    obtain ⟨Au, cu, rfl, _⟩ := hu.form
    have hfin : Decoded w.heap.size w R (.returned (.tuple #[.slice Au R.1.length cu, .int .i64 (R.2 : Nat)])) W :=
      ⟨_, rfl, ((Below.refl w.heap.size w).alloc (Nat.le_refl _) _).grown hG (by simp) (fun k hk => by cases hk; exact Nat.le_refl _), hu.mono (fun b hb => ⟨by have := hb.1; simp at this; omega, hb.2⟩)⟩
    have HFIN := Lib.hid hfin
    clear hG hu hfin
    go_wp2_with fail
    go_ret2
    exact HFIN.out

end Go.Proofs.Ytffehnojcajhiaa.Wire
