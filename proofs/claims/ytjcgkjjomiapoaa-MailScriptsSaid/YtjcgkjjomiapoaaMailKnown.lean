/-
  What the statements of layer 5 call besides: the chapter's example.
-/
import Derived.Test.YtjcgkjjomiapoaaMailTake
import Derived.Lib.SlBytesConst
namespace Go.Proofs.Ytjcgkjjomiapoaa.Mail
open Go Go.RowKit Go.Proofs.Ytjcgkjjomiapoaa.Law

theorem Post.lt {W : World} {base p : Nat} {nodes : Int} {ms : List Msg} (h : Post W base p nodes ms) : p < W.heap.size := by
  obtain ⟨_, rv, h1, _⟩ := h
  exact h1.lt

theorem one_a (w : World) : Bytes (w.alloc (.cells #[.int .u8 97] 5 (1, 2))).heap.size (w.alloc (.cells #[.int .u8 97] 5 (1, 2))) (.slice (some ⟨w.heap.size, 0, none⟩) 1 1) [97] :=
  Bytes.one 97 (by decide) (by simp) (by rw [World.cell?_alloc_mark]; rfl)

set_option maxRecDepth 100000 in
set_option maxHeartbeats 4000000 in
theorem known_calls (w : World) : Calls Try.prog 7 #[] w fun e W => e = .returned (.bool true) ∧ Below w.heap.size w W := by
  have kc := fun (w : World) (C : Array Value) (n c : Nat) => Lib.run_convert_bytes_const (P := Try.prog) w 32 5 C n c Try.underlying32 Try.underlying5
  go_enter Try.func7, Try.ntmps7
  go_wp2_with fail
  refine (new_calls 3 (by decide) (by decide) _).mono ?_
  rintro e w1 ⟨rfl, hP1, hB1⟩
  have hs1 := hB1.size
  have HP1 := Lib.hid hP1
  have HB1 := Lib.hid hB1
  clear hP1 hB1
  go_wp2_with fail
  have hm := (Below.refl w1.heap.size w1).alloc (Nat.le_refl _) (.cells #[.int .u8 97] 5 (1, 2))
  refine (send_calls w.heap.size w.heap.size 3 [] _ (HP1.out.below hm) (Nat.le_trans hs1 hm.size) 0 1 (by decide) (by decide) _ [97] (one_a w1) (by decide) (by decide)).mono ?_
  rintro e w2 ⟨rfl, hP2, hF2⟩
  have hF2 : Frm isPost w.heap.size w w2 := ((Frm.of_below HB1.out (Nat.le_refl _)).trans (Frm.of_below hm hs1)).trans hF2
  have hs2 := hF2.size
  have HP2 := Lib.hid hP2
  have HF2 := Lib.hid hF2
  clear hP2 hF2 HP1 HB1 hm hs1
  go_wp2_with fail
  refine (twice_calls w.heap.size w.heap.size 3 _ _ HP2.out hs2 0 ⟨0, 1, str [97]⟩ rfl (by decide)).mono ?_
  rintro e w3 ⟨rfl, hP3, hF3⟩
  have hF3 := HF2.out.trans hF3
  have hs3 := hF3.size
  have HP3 := Lib.hid hP3
  have HF3 := Lib.hid hF3
  clear hP3 hF3 HP2 HF2 hs2
  go_wp2_with fail
  refine (take_calls w.heap.size w.heap.size 3 _ _ HP3.out hs3 0 ⟨0, 1, str [97]⟩ rfl (by decide)).mono ?_
  rintro e w4 ⟨v, rfl, hG, hP4, hF4, -⟩
  have hF4 := HF3.out.trans hF4
  have hs4 := hF4.size
  have hb4 := ((Below.refl w4.heap.size w4).alloc (Nat.le_refl _) (.cells #[.int .i64 0, .int .i64 1, v] 34))
  have hcv := run_string_bytes (P := Try.prog) _ Try.underlying32 Try.underlying5 Try.underlying9 (hG.below hb4).bytes
  have hst : str (bytesOf (str [97])) = ⟨#[97]⟩ := by decide
  rw [hst] at hcv
  have HL := Lib.hid (len_calls _ _ _ _ _ (hP4.below hb4))
  have HFIN := Lib.hid (hF4.low.alloc hs4 (.cells #[.int .i64 0, .int .i64 1, v] 34))
  obtain ⟨gb, gc, rfl, hgb, _⟩ := hG.own
  clear hG hP4 hF4 HP3 HF3 hs3 hb4 hst
  go_wp2_with fail
  refine HL.out.mono ?_
  rintro e W ⟨rfl, rfl⟩
  go_wp2_with fail
  go_ret
  exact ⟨rfl, HFIN.out⟩

end Go.Proofs.Ytjcgkjjomiapoaa.Mail
