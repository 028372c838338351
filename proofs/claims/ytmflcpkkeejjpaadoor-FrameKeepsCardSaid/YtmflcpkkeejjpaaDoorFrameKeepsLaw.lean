/-
  The walk of the law FrameKeeps: whatever the payload, it returns true and nothing that lay has turned.
-/
import Derived.Test.YtmflcpkkeejjpaaDoorApartWalk
import Derived.Test.YtmflcpkkeejjpaaDoorFrameCutsLaw
import Derived.StillTailTactics
import Derived.IntWalk
namespace Go.Proofs.YtmflcpkkeejjpaaDoor.Frame
open Go.RowKit Go.Shelf Go.Proofs.YtmflcpkkeejjpaaDoor.Law Go.Proofs.YtmflcpkkeejjpaaDoor.Crc

/-- Five values by their numbers. -/
def five {α : Type} (x0 x1 x2 x3 x4 : α) : Nat → α
  | 0 => x0
  | 1 => x1
  | 2 => x2
  | 3 => x3
  | _ => x4

theorem below_five {j : Nat} (h : j < 5) : j = 0 ∨ j = 1 ∨ j = 2 ∨ j = 3 ∨ j = 4 := by omega

/-- Five slices whose blocks were made one behind the other share none: first number 3, then 2, 4, 0 and 1. -/
theorem distinct_five {x0 x1 x2 x3 x4 : Value} {a3 b3 a2 b2 a4 b4 a0 b0 a1 b1 : Nat} (R3 : ∀ b, x3.ownBlock = some b → a3 ≤ b ∧ b < b3) (R2 : ∀ b, x2.ownBlock = some b → a2 ≤ b ∧ b < b2) (R4 : ∀ b, x4.ownBlock = some b → a4 ≤ b ∧ b < b4)
    (R0 : ∀ b, x0.ownBlock = some b → a0 ≤ b ∧ b < b0) (R1 : ∀ b, x1.ownBlock = some b → a1 ≤ b ∧ b < b1) (h32 : b3 ≤ a2) (h22 : a2 ≤ b2) (h24 : b2 ≤ a4) (h44 : a4 ≤ b4) (h40 : b4 ≤ a0) (h00 : a0 ≤ b0) (h01 : b0 ≤ a1) :
    Distinct 5 (five x0 x1 x2 x3 x4) := by
  intro i j hi hj hne b h1 h2
  rcases below_five hi with rfl | rfl | rfl | rfl | rfl <;> rcases below_five hj with rfl | rfl | rfl | rfl | rfl <;> first
    | exact hne rfl
    | (simp only [five] at h1 h2
       first
         | (have := R0 b h1; have := R1 b h2; omega)
         | (have := R1 b h1; have := R0 b h2; omega)
         | (have := R0 b h1; have := R2 b h2; omega)
         | (have := R2 b h1; have := R0 b h2; omega)
         | (have := R0 b h1; have := R3 b h2; omega)
         | (have := R3 b h1; have := R0 b h2; omega)
         | (have := R0 b h1; have := R4 b h2; omega)
         | (have := R4 b h1; have := R0 b h2; omega)
         | (have := R1 b h1; have := R2 b h2; omega)
         | (have := R2 b h1; have := R1 b h2; omega)
         | (have := R1 b h1; have := R3 b h2; omega)
         | (have := R3 b h1; have := R1 b h2; omega)
         | (have := R1 b h1; have := R4 b h2; omega)
         | (have := R4 b h1; have := R1 b h2; omega)
         | (have := R2 b h1; have := R3 b h2; omega)
         | (have := R3 b h1; have := R2 b h2; omega)
         | (have := R2 b h1; have := R4 b h2; omega)
         | (have := R4 b h1; have := R2 b h2; omega)
         | (have := R3 b h1; have := R4 b h2; omega)
         | (have := R4 b h1; have := R3 b h2; omega))

set_option maxRecDepth 100000 in
set_option maxHeartbeats 8000000 in
theorem frameKeeps_law (sv : Value) (bs : List Nat) (hreach : bs.length ≤ 140737488351232) (w : World) (hT : Tab w) (hI : Bytes w.heap.size w sv bs) :
    Calls Tryd.prog 8 #[sv] w fun e W' => e = .returned (.bool true) ∧ Below w.heap.size w W' := by
  obtain ⟨pl, hpl⟩ : ∃ pl, bs.length = pl := ⟨_, rfl⟩
  have HPL := Lib.hid hpl
  have HT := Lib.hid hT
  have HI := Lib.hid hI
  clear hT hI hpl
  go_enter Tryd.func8, Tryd.ntmps8
  go_wp2_with fail
  refine (room_calls sv bs hreach w HI.out).mono ?_
  rintro e w1 ⟨g1, c1, rfl, hO1, hB1⟩
  have hF1 := hO1.front bs.length (by omega) (by simp)
  rw [List.take_left' rfl] at hF1
  have cP := put_calls _ bs w1 (HT.out.below hB1) hF1
  rw [HPL.out] at cP ⊢
  have CP := Lib.hid cP
  have HO1 := Lib.hid hO1
  have hs1 := hB1.size
  clear cP hO1 hF1
  go_wp2_with fail
  refine CP.out.mono ?_
  rintro e w2 ⟨v2, rfl, hO2, hB2⟩
  have hs2 := hB2.size
  have hB2w := hB1.trans (hB2.mono hs1)
  have HO2 := Lib.hid hO2
  clear hO2 CP
  go_wp2_with fail
  refine (known_calls w2 (HT.out.below hB2w)).mono ?_
  rintro e w3 ⟨rfl, hB3⟩
  have hs3 := hB3.size
  have hB3w := hB2w.trans (hB3.mono (by omega))
  have cK := kept_true sv bs hreach w3 _ g1 c1 ((HO1.out.below hB2).below hB3) (HI.out.on hB3w)
  rw [HPL.out] at cK
  have CK := Lib.hid cK
  clear cK
  go_wp2_with fail
  refine CK.out.mono ?_
  rintro e W ⟨rfl, rfl⟩
  clear CK
  by_cases hlong : pl ≤ 65536
  · have hputn : putN bs = (frameN bs, 0) := by unfold putN; rw [if_pos (by rw [HPL.out]; exact hlong)]
    have hO2 := HO2.out
    rw [hputn] at hO2 ⊢
    replace hO2 : OwnB w2 w1.heap.size 5 v2 (frameN bs) := hO2
    obtain ⟨fl, hfle⟩ : ∃ fl, pl + 12 = fl := ⟨_, rfl⟩
    have hfl : (frameN bs).length = fl := by rw [frameN_length, HPL.out]; omega
    obtain ⟨F, hF⟩ : ∃ F, frameN bs = F := ⟨_, rfl⟩
    rw [hF] at hO2 hfl
    obtain ⟨g2, c2, rfl, hg2, hg2'⟩ := hO2.form (by omega)
    rw [hfl] at hO2
    have hO2' := hO2.below hB3
    have hI2 := hO2'.bytes
    have HF := Lib.hid hF
    have HFL := Lib.hid hfl
    have HI2 := Lib.hid hI2
    have HV2 := Lib.hid hO2
    clear hputn hF hI2 hO2 hO2' HO2
    rw [hfl]
    clear hfl
    have cR := room_calls (.slice (some ⟨g2, 0, none⟩) fl c2) F (by rw [HFL.out]; omega) W (by simpa only [HFL.out] using HI2.out)
    have CR := Lib.hid cR
    clear cR
    go_wp2_with fail
    refine CR.out.mono ?_
    rintro e w4 ⟨g4, c4, rfl, hO4, hB4⟩
    have hs4 := hB4.size
    have hB4w := hB3w.trans (hB4.mono (by omega))
    have hF4 := hO4.front F.length (by omega) (by simp)
    rw [List.take_left' rfl] at hF4
    rw [HFL.out] at hF4 ⊢
    have hnx : nextN F 0 = (bs, 12 + pl, 0) := by
      unfold nextN
      have h := readN_frame bs [] (by rw [HPL.out]; exact hlong) 0
      rw [List.append_nil, HF.out, HPL.out] at h
      rw [List.drop_zero, h, Nat.zero_add]
    have cN := next_at (.slice (some ⟨g4, 0, none⟩) fl c4) F (by rw [HFL.out]; omega) 0 (Nat.zero_le _) w4 (HT.out.below hB4w) hF4
    rw [hnx] at cN
    have CN := Lib.hid cN
    have HF4 := Lib.hid hF4
    have HO4 := Lib.hid hO4
    clear cN hnx hF4 hO4 CR
    go_wp2_with fail
    refine CN.out.mono ?_
    rintro e w5 ⟨v5, rfl, hO5, hB5⟩
    replace hO5 : OwnB w5 w4.heap.size 5 v5 bs := hO5
    have hs5 := hB5.size
    have hB5w := hB4w.trans (hB5.mono (by omega))
    obtain ⟨A5, c5, rfl⟩ := hO5.bytes.form
    rw [HPL.out] at hO5 ⊢
    have cC := cut_calls (.slice (some ⟨g4, 0, none⟩) fl c4) F (by rw [HFL.out]; omega) w5 (HT.out.below hB5w) (HF4.out.on hB5)
    have CC := Lib.hid cC
    have HO5 := Lib.hid hO5
    clear cC hO5 CN
    go_wp2_with fail
    refine CC.out.mono ?_
    rintro e w6 ⟨v6, ys, k6, rfl, hTo, hrow, hfine, hB6⟩
    have hs6 := hB6.size
    have hB6w := hB5w.trans (hB6.mono (by omega))
    have hone : ∃ y, ys = [y] ∧ y.2 = bs := by
      have h1 := told_row [] [bs] (by intro p hp; rw [List.mem_singleton.1 hp, HPL.out]; exact hlong)
      have h2 := done_row (ps := [bs]) (rest := []) (fun at0 => by rw [readN_end1 (by simp)]; decide)
      have hr : rowN [bs] = F := by simp [rowN, HF.out]
      rw [List.append_nil, hr] at h1 h2
      have h3 := (told_all hTo.1 hTo.2 h1 h2).1
      match ys, h3 with
      | [y], h3 =>
        refine ⟨y, rfl, ?_⟩
        simpa [bytesOf] using h3
      | [], h3 => simp [bytesOf] at h3
      | _ :: _ :: _, h3 => simp [bytesOf] at h3
    obtain ⟨⟨v7, b7⟩, rfl, hb7⟩ := hone
    replace hb7 : b7 = bs := hb7
    subst hb7
    have hO7 : OwnB w6 w5.heap.size 5 v7 b7 := (hfine _ (List.mem_singleton.2 rfl)).1
    obtain ⟨A7, c7, rfl⟩ := hO7.bytes.form
    rw [HPL.out] at hO7 hrow
    obtain ⟨gr, cr, hv6⟩ : ∃ gr cr, v6 = .slice (some ⟨gr, 0, none⟩) 1 cr := by
      rcases hrow.2 with ⟨_, h0⟩ | ⟨g, cap, cu, h, _⟩
      · simp at h0
      · exact ⟨g, cap, h⟩
    subst hv6
    have hcr : w6.cell? ⟨gr, 0, none⟩ = some (.slice A7 pl c7) := hrow.cellAt 0 (by simp)
    have cK := kept_true (.slice (some ⟨g2, 0, none⟩) fl c2) F (by rw [HFL.out]; omega) w6 _ g4 c4 (by rw [HFL.out]; have h := (HO4.out.below hB5).below hB6; rwa [HFL.out] at h) (((HI2.out.on hB4).on hB5).on hB6)
    rw [HFL.out] at cK
    have CK := Lib.hid cK
    have HO7 := Lib.hid hO7
    clear cK hrow hfine hTo hO7 CC
    go_wp2_with fail
    refine CK.out.mono ?_
    rintro e W2 ⟨rfl, rfl⟩
    clear CK
    have hcap1 := HO1.out.capOk (by simp [HPL.out])
    have hcap4 := HO4.out.capOk (by simp [HFL.out])
    rw [HPL.out] at hcap1
    rw [HFL.out] at hcap4
    go_upto_region 12 with fail
    have hw1 : IntKind.i64.wrap ((pl : Int) + 3) = (pl : Int) + 3 := IntWalk.i64_in _ (by omega)
    have hw4 : IntKind.i64.wrap ((fl : Int) + 3) = (fl : Int) + 3 := IntWalk.i64_in _ (by omega)
    have hn1 : 0 ≤ (pl : Int) + 3 := by omega
    have hn4 : 0 ≤ (fl : Int) + 3 := by omega
    have ht1 : ((pl : Int) + 3).toNat = pl + 3 := by omega
    have ht4 : ((fl : Int) + 3).toNat = fl + 3 := by omega
    have hc1 : (pl : Int) + 3 ≤ (c1 : Int) := by omega
    have hc4 : (fl : Int) + 3 ≤ (c4 : Int) := by omega
    go_still_tail 15, (by kernel_rfl)
    clear hw1 hw4 hn1 hn4 ht1 ht4 hc1 hc4
    have X3 := (((((HO1.out.below hB2).below hB3).below hB4).below hB5).below hB6).drew
    have X2 := ((((HV2.out.below hB3).below hB4).below hB5).below hB6).drew.lower (show w.heap.size ≤ w1.heap.size by omega)
    have X4 := ((HO4.out.below hB5).below hB6).drew.lower (show w.heap.size ≤ W.heap.size by omega)
    have X0 := (HO5.out.below hB6).drew.lower (show w.heap.size ≤ w4.heap.size by omega)
    have X1 := HO7.out.drew.lower (show w.heap.size ≤ w5.heap.size by omega)
    have hDi := distinct_five HO1.out.1.lt HV2.out.1.lt HO4.out.1.lt HO5.out.1.lt HO7.out.1.lt (Nat.le_refl _) hs2 hs3 hs4 (Nat.le_refl _) hs5 (Nat.le_refl _)
    rw [HPL.out] at X3
    rw [HFL.out] at X4
    rw [HPL.out, HFL.out] at hDi
    have hBd := hB6w.drew
    have hsd := hBd.size
    change wpList _ _ _ _ _ W2.drew
    generalize W2.drew = wd at X0 X1 X2 X3 X4 hBd hsd ⊢
    have cA := apart_calls 5 (by omega) (five (.slice A5 pl c5) (.slice A7 pl c7) (.slice (some ⟨g2, 0, none⟩) fl c2) (.slice (some ⟨g1, 0, none⟩) (pl + 3) c1) (.slice (some ⟨g4, 0, none⟩) (fl + 3) c4)) (five pl pl fl (pl + 3) (fl + 3))
      (by intro j hj; rcases below_five hj with rfl | rfl | rfl | rfl | rfl <;> simp only [five] <;> omega) wd.heap.size 5
      #[.slice A5 pl c5, .slice A7 pl c7, .slice (some ⟨g2, 0, none⟩) fl c2, .slice (some ⟨g1, 0, none⟩) (pl + 3) c1, .slice (some ⟨g4, 0, none⟩) (fl + 3) c4] (0, 0) w.heap.size
      (wd.alloc (.cells #[.slice A5 pl c5, .slice A7 pl c7, .slice (some ⟨g2, 0, none⟩) fl c2, .slice (some ⟨g1, 0, none⟩) (pl + 3) c1, .slice (some ⟨g4, 0, none⟩) (fl + 3) c4] 22))
      (by simp; omega) (by intro j hj; rcases below_five hj with rfl | rfl | rfl | rfl | rfl <;> rfl) (heap_alloc_new wd _) hDi
      (by
        intro j hj
        rcases below_five hj with rfl | rfl | rfl | rfl | rfl
        · exact ⟨_, HPL.out, X0.alloc _⟩
        · exact ⟨_, HPL.out, X1.alloc _⟩
        · exact ⟨_, HFL.out, X2.alloc _⟩
        · exact ⟨_, by simp [five, HPL.out], X3.alloc _⟩
        · exact ⟨_, by simp [five, HFL.out], X4.alloc _⟩)
    have CA := Lib.hid cA
    clear cA X0 X1 X2 X3 X4 hDi
    go_wp2_with fail
    refine CA.out.mono ?_
    rintro e w8 ⟨rfl, hB8⟩
    go_wp2
    go_ret
    exact ⟨rfl, (hBd.alloc hsd _).trans hB8⟩
  · have hputn : putN bs = ([], 2) := by unfold putN; rw [if_neg (by rw [HPL.out]; exact hlong)]
    rw [hputn]
    obtain ⟨A, cp, hsv⟩ := HI.out.form
    rw [HPL.out] at hsv
    subst hsv
    have hplI : 65536 < (pl : Int) := by omega
    clear hputn HO2
    go_wp2
    go_ret
    exact ⟨rfl, hB3w⟩

end Go.Proofs.YtmflcpkkeejjpaaDoor.Frame
