/-
  Put together out of texts of one chain: what they hold stands ahead of each.
-/
import Derived.Test.YtnhkpemajknfnaaGreatDoorGSeglogHeads15
/-
  Contracts of Put, the project's and the document's own: a payload's frame, in new memory; a payload that is too long is refused.
-/
namespace Go.Proofs.YtnhkpemajknfnaaGreatDoor.Frame
open Go.RowKit Go.Shelf Go.Proofs.YtnhkpemajknfnaaGreatDoor.Law Go.Proofs.YtnhkpemajknfnaaGreatDoor.Crc

/-- Bytes of the call's own and a second result. -/
def Owned2 (base : Nat) (w : World) (bs : List Nat) (n : Nat) (e : Ending) (W : World) : Prop := ∃ v, e = .returned (.tuple #[v, .int .i64 (n : Nat)]) ∧ OwnB W base 5 v bs ∧ Below base w W

theorem ownB_nil (W : World) (base : Nat) (e : TypeId) : OwnB W base e (.slice none 0 0) [] := ⟨by simpa [vals] using World.ownsRow_nil W base e 1, by simp⟩
theorem ownB_made (W : World) (e : TypeId) : OwnB (W.alloc (.cells #[] e)) W.heap.size e (.slice (some ⟨W.heap.size, 0, none⟩) 0 0) [] := ⟨World.ownsRow_made W #[] 0 (Nat.le_refl _) (by simp [maxLen]) rfl, by simp⟩

theorem _root_.Go.Proofs.YtnhkpemajknfnaaGreatDoor.Law.OwnB.lower {W : World} {base b' : Nat} {e : TypeId} {v : Value} {bs : List Nat} (h : OwnB W base e v bs) (hb : b' ≤ base) : OwnB W b' e v bs := by
  refine ⟨⟨h.1.1, ?_⟩, h.2⟩
  rcases h.1.2 with h0 | ⟨g, cap, cur, rfl, h1, h2⟩
  · exact .inl h0
  · exact .inr ⟨g, cap, cur, rfl, by omega, h2⟩

/-- The frame of a payload that is short enough; none of one that is too long. -/
def putN (p : List Nat) : List Nat × Nat := if p.length ≤ 65536 then (frameN p, 0) else ([], 2)

set_option maxRecDepth 100000 in
set_option maxHeartbeats 2000000 in
theorem put_calls (sv : Value) (bs : List Nat) (w : World) (hT : Tab w) (hI : Bytes w.heap.size w sv bs) :
    Calls Tryz.prog 42 #[sv] w (Owned2 w.heap.size w (putN bs).1 (putN bs).2) := by
  obtain ⟨i0, hi, hz0, hz1, hz2⟩ := info_parts info_u8'
  obtain ⟨A, cap, rfl⟩ := hI.form
  by_cases hlong : bs.length ≤ 65536
  · have hp : putN bs = (frameN bs, 0) := by unfold putN; rw [if_pos hlong]
    rw [hp]
    have hs1 : extN 0 (le4 bs.length) < 4294967296 := extN_lt 0 _ (by decide)
    have hs2 : extN 0 bs < 4294967296 := extN_lt 0 _ (by decide)
    have hf : frameN bs = ((([] ++ le4 bs.length) ++ le4 (extN 0 (le4 bs.length))) ++ bs) ++ le4 (extN 0 bs) := by simp [frameN, List.append_assoc]
    obtain ⟨F, hF⟩ : ∃ F, frameN bs = F := ⟨_, rfl⟩
    rw [hF] at hf ⊢
    obtain ⟨s1, e1⟩ : ∃ s, extN 0 (le4 bs.length) = s := ⟨_, rfl⟩
    obtain ⟨s2, e2⟩ : ∃ s, extN 0 bs = s := ⟨_, rfl⟩
    rw [e1] at hs1 hf
    rw [e2] at hs2 hf
    obtain ⟨len, hlen⟩ : ∃ len, bs.length = len := ⟨_, rfl⟩
    rw [hlen] at hI hlong hf e1 ⊢
    have HI := Lib.hid hI
    have HT := Lib.hid hT
    have HF := Lib.hid hf
    have E1 := Lib.hid e1
    have E2 := Lib.hid e2
    have HL := Lib.hid hlen
    clear hp hF hf e1 e2 hlen hI hT
    have hlongI : (len : Int) ≤ 65536 := by omega
    go_enter Tryz.func42, Tryz.ntmps42
    go_wp2_with fail
    refine (frameLen_calls len (by omega) w).mono ?_
    rintro e w' ⟨rfl, rfl⟩
    go_wp2_with (at_make; refine wpList_make_own _ rfl _ _ _ rfl w.heap.size 5 i0 (.int .u8 0) 1 Tryz.underlying29 hi hz0 hz1 _ _ _ (len + 12) rfl rfl (by simp) (by rw [hz2]; omega) (by simp only [maxLen]; omega) (Nat.le_refl _) ?_; intro w1 hO1 hg1; have hB1 : Below w.heap.size w w1 := (Below.refl _ w).grown hg1 (Nat.le_refl _) (by simp); clear hg1)
    refine (appendNum_calls _ [] (by simp) len (by omega) w.heap.size w1 ⟨hO1, by simp⟩ hB1.size).mono ?_
    rintro e w2 ⟨v2, rfl, O2, B2⟩
    have hB2 := hB1.trans B2
    clear hO1 hB1 B2
    go_wp2_with fail
    refine (sum_calls v2 ([] ++ le4 len) (by simp [le4_length]) w2 (HT.out.below hB2) O2.bytes).mono ?_
    rintro e w3 ⟨rfl, B3⟩
    have hB3 := hB2.trans (B3.mono hB2.size)
    have O3 := O2.below B3
    rw [List.nil_append, E1.out]
    clear O2 B3 hB2
    go_wp2_with fail
    refine (appendNum_calls v2 _ (by simp [le4_length]) s1 hs1 w.heap.size w3 O3 hB3.size).mono ?_
    rintro e w4 ⟨v4, rfl, O4, B4⟩
    have hB4 := hB3.trans B4
    clear O3 hB3 B4
    have hroom : (([] ++ le4 len) ++ le4 s1).length + bs.length ≤ 140737488355328 := by rw [HL.out]; simp [le4_length]; omega
    have hI4 := HI.out.on hB4
    have HR := Lib.hid hroom
    have HI4 := Lib.hid hI4
    have HO4 := Lib.hid O4
    have hb4 := hB4.size
    clear hroom hI4 O4
    go_wp2_with (at_builtin; refine wpList_append_bytes rfl _ _ _ rfl Tryz.underlying29 hi hz0 hz1 hz2 rfl rfl rfl HO4.out HI4.out HR.out hb4 ?next)
    case next =>
      intro v5 w5 O5 G5
      have hB5 := below_append hB4 G5 HO4.out (Nat.le_refl _) hb4
      clear HO4 hB4 HI4 G5
      go_wp2_with fail
      refine (sum_calls _ bs (by rw [HL.out]; omega) w5 (HT.out.below hB5) (HI.out.on hB5)).mono ?_
      rintro e w6 ⟨rfl, B6⟩
      have hB6 := hB5.trans (B6.mono hB5.size)
      have O6 := O5.below B6
      rw [E2.out]
      clear O5 B6 hB5
      go_wp2_with fail
      refine (appendNum_calls v5 _ (by simp [le4_length]; rw [HL.out]; omega) s2 hs2 w.heap.size w6 O6 hB6.size).mono ?_
      rintro e w7 ⟨v7, rfl, O7, B7⟩
      have O8 : OwnB w7 w.heap.size 5 v7 F := by rw [HF.out]; simpa [List.append_assoc] using O7
      clear O7
      go_wp2
      go_ret2
      exact ⟨v7, rfl, O8, hB6.trans B7⟩
  · have hp : putN bs = ([], 2) := by unfold putN; rw [if_neg hlong]
    rw [hp]
    obtain ⟨len, hlen⟩ : ∃ len, bs.length = len := ⟨_, rfl⟩
    rw [hlen] at hlong ⊢
    have hlongI : 65536 < (len : Int) := by omega
    clear hp hlen hI hT hlong
    go_enter Tryz.func42, Tryz.ntmps42
    go_wp2
    go_ret2
    exact ⟨_, rfl, ownB_nil _ _ _, Below.refl _ _⟩

end Go.Proofs.YtnhkpemajknfnaaGreatDoor.Frame
