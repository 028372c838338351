/-
  The contract of Encode: a message's bytes, or the error.
-/
import Derived.Test.YtffehnojcajhiaaWireCount
namespace Go.Proofs.Ytffehnojcajhiaa.Wire
open Go Go.RowKit Go.Sort Go.Proofs.Ytffehnojcajhiaa.Law

/-- Bytes of the call's own and a number. -/
def Encoded (base : Nat) (w : World) (R : List Nat × Nat) (e : Ending) (W : World) : Prop := ∃ v, e = .returned (.tuple #[v, .int .i64 (R.2 : Nat)]) ∧ OwnB W base 5 v R.1 ∧ Below base w W

theorem ownB_nil (W : World) (base : Nat) (e : TypeId) : OwnB W base e (.slice none 0 0) [] := ⟨by simpa [vals] using World.ownsRow_nil W base e 1, by simp⟩

set_option maxRecDepth 100000 in
set_option maxHeartbeats 4000000 in
theorem encode_calls (l : List Item) (hsz : sizedL l) (hlong : l.length ≤ 9223372036854775807) (sv : Value) (w : World) (hI : Old w.heap.size w sv l) :
    Calls Try.prog 17 #[sv] w (Encoded w.heap.size w (encN l)) := by
  obtain ⟨i0, hi, hz0, hz1, hz2⟩ := info_parts info_u8w
  obtain ⟨base, hbase⟩ : ∃ b, w.heap.size = b := ⟨_, rfl⟩
  obtain ⟨⟨c', e'⟩, hR⟩ : ∃ R, chkL 1 0 l = R := ⟨_, rfl⟩
  have hT : Two (w.alloc (.cells #[.int .i64 0, .int .i64 0] 67)) 67 w.heap.size 0 0 := heap_alloc_new w _
  have cC := count_calls (nodesL l + 1) l (by omega) hsz hlong sv 1 0 0 w.heap.size w.heap.size (w.alloc (.cells #[.int .i64 0, .int .i64 0] 67)) (Items.low ((Below.refl _ _).alloc (Nat.le_refl _) _) hI) (Nat.le_refl _) (by omega) (by omega) (by omega) hT
  rw [hR, Nat.zero_add] at cC
  rw [hbase] at cC hI ⊢
  have CC := Lib.hid cC
  have HI := Lib.hid hI
  have HR := Lib.hid hR
  have HBS := Lib.hid hbase
  clear cC hI hR hT
  go_enter Try.func17, Try.ntmps17
  go_wp2_with fail
  refine CC.out.mono ?_
  rintro e w1 ⟨rfl, G1, b1, T1, h1⟩
  obtain ⟨t0, t1, f0, f1⟩ := T1.cells
  have hB1 : Below base w w1 := ((Below.refl base w).alloc (by omega) (.cells #[.int .i64 0, .int .i64 0] 67)).grown G1 (by simp; omega) (fun k hk => by cases hk; omega)
  have hs1 : base ≤ w1.heap.size := by have := hB1.size; omega
  have H1 := Lib.hid h1
  have HB1 := Lib.hid hB1
  clear G1 T1 h1 hB1 CC hbase
  by_cases he : e' = 0
  · subst he
    have hb1 := H1.out rfl
    have hok := chkL_ok 1 0 l (by rw [HR.out])
    by_cases hbig : 65536 < b1
    · have hE : encN l = ([], 2) := by unfold encN; rw [HR.out, if_neg (by simp), if_pos (by omega)]
      have HE := Lib.hid hE
      have hbI : 65536 < (b1 : Int) := by omega
      clear hE hb1 hok
      go_wp2_with fail
      go_ret2
      rw [HE.out]
      exact ⟨_, rfl, ownB_nil _ _ _, HB1.out⟩
    · have hE : encN l = (bytesL l, 0) := by unfold encN; rw [HR.out, if_neg (by simp), if_neg (by omega)]
      have HE := Lib.hid hE
      have hbI : (b1 : Int) ≤ 65536 := by omega
      have HBB := Lib.hid hb1
      have HW := Lib.hid (show base ≤ w.heap.size by rw [HBS.out]; exact Nat.le_refl _)
      clear hE hb1 hok
      go_wp2_with (at_make; refine wpList_make_own _ rfl _ _ _ rfl base 5 i0 (.int .u8 0) 1 Try.underlying48 hi hz0 hz1 _ _ _ b1 rfl rfl (by simp) (by rw [hz2]; omega) (by simp only [maxLen]; omega) (by omega) ?_; intro w2 hO2 hg2; have hB2 : Below base w1 w2 := (Below.refl _ _).grown hg2 (by omega) (by simp); clear hg2)
      have hI2 := Items.low (HB1.out.trans hB2) HI.out
      have hs2 := hB2.size
      have cA := appendItems_calls (nodesL l + 1) l (by omega) hsz sv _ [] base w2 hI2 ⟨hO2, by simp⟩ (by omega) (by have := HBB.out; simp; omega)
      have CA := Lib.hid cA
      have HB2 := Lib.hid (HB1.out.trans hB2)
      clear cA hI2 hB2 hO2
      go_wp2_with fail
      refine CA.out.mono ?_
      rintro e w3 ⟨v3, rfl, O3, A3⟩
      have hB3 := HB2.out.trans A3.low
      clear CA HB2 A3
      go_wp2_with fail
      go_ret2
      rw [HE.out]
      exact ⟨v3, rfl, by simpa using O3, hB3⟩
  · have hE : encN l = ([], e') := by unfold encN; rw [HR.out, if_pos he]
    have HE := Lib.hid hE
    have heI : ¬ (e' : Int) = 0 := by omega
    clear hE he
    go_wp2_with fail
    go_ret2
    rw [HE.out]
    exact ⟨_, rfl, ownB_nil _ _ _, HB1.out⟩

end Go.Proofs.Ytffehnojcajhiaa.Wire
