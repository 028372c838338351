/-
  The walk of the law WireKeeps.
-/
import Derived.Test.YtjahkbomminglaaWireDecodeU
import Derived.Test.YtjahkbomminglaaWireWipe
import Derived.Test.YtjahkbomminglaaWireRefCopy
import Derived.Test.YtjahkbomminglaaWireBackLaw
import Derived.Test.YtjahkbomminglaaApartTwo
namespace Go.Proofs.Ytjahkbomminglaa.Wire
open Go Go.RowKit Go.Proofs.Ytjahkbomminglaa.Law

/-- Three values by their numbers. -/
def three {α : Type} (x0 x1 x2 : α) : Nat → α
  | 0 => x0
  | 1 => x1
  | _ => x2
theorem below_three {j : Nat} (h : j < 3) : j = 0 ∨ j = 1 ∨ j = 2 := by omega

theorem distinct_three {x0 x1 x2 : Value} {a0 b0 a1 b1 a2 b2 : Nat} (R0 : ∀ b, x0.ownBlock = some b → a0 ≤ b ∧ b < b0) (R1 : ∀ b, x1.ownBlock = some b → a1 ≤ b ∧ b < b1) (R2 : ∀ b, x2.ownBlock = some b → a2 ≤ b ∧ b < b2) (h01 : b0 ≤ a1) (h11 : a1 ≤ b1) (h12 : b1 ≤ a2) :
    Distinct 3 (three x0 x1 x2) := by
  intro i j hi hj hne b h1 h2
  rcases below_three hi with rfl | rfl | rfl <;> rcases below_three hj with rfl | rfl | rfl <;> first
    | exact hne rfl
    | (simp only [three] at h1 h2
       first
         | (have := R0 b h1; have := R1 b h2; omega)
         | (have := R1 b h1; have := R0 b h2; omega)
         | (have := R0 b h1; have := R2 b h2; omega)
         | (have := R2 b h1; have := R0 b h2; omega)
         | (have := R1 b h1; have := R2 b h2; omega)
         | (have := R2 b h1; have := R1 b h2; omega))

theorem Items.stay {lo hi : Nat} {W W' : World} {v : Value} {l : List Item} (h : Items (fun b => lo ≤ b ∧ b < hi) W v l) (hh : hi ≤ W.heap.size) (hB : Below W.heap.size W W') : Items (fun b => lo ≤ b ∧ b < hi) W' v l :=
  h.keep (fun b hb => hB.block b (by omega)) (fun _ hb => hb)
theorem ownB_at {W W' : World} {base : Nat} {e : TypeId} {sv : Value} {bs : List Nat} (h : OwnB W base e sv bs) (hb : ∀ g, sv.ownBlock = some g → W'.heap[g]? = W.heap[g]?) : OwnB W' base e sv bs := by
  refine ⟨⟨h.1.1, ?_⟩, h.2⟩
  rcases h.1.2 with h0 | ⟨g, cap, cur, rfl, h1, h2, h3⟩
  · exact .inl h0
  · exact .inr ⟨g, cap, cur, rfl, h1, (hb g rfl).trans h2, h3⟩
theorem Wiped.low {S : Nat → Prop} {W0 W : World} {n : Nat} (h : Wiped S W0 W) (hn : ∀ b, S b → n ≤ b) : Below n W0 W :=
  ⟨h.1, h.2.1, h.2.2.1, by rw [h.2.2.2.1]; exact Nat.le_refl _, fun b hb => h.2.2.2.2.1 b (fun hS => by have := hn b hS; omega)⟩

set_option maxRecDepth 100000 in
set_option maxHeartbeats 1000000 in
theorem wireKeeps_law (l : List Item) (hF : Fits l) (sv : Value) (w : World) (hI : Old w.heap.size w sv l) :
    Calls Try.prog 7 #[sv] w fun e W => e = .returned (.bool true) ∧ Below w.heap.size w W := by
  have hlong : l.length ≤ 9223372036854775807 := by have := hF.2.2; omega
  obtain ⟨⟨xs, er⟩, hR⟩ : ∃ R, encN l = R := ⟨_, rfl⟩
  have hsh := encN_short l
  rw [hR] at hsh
  have hsh' : xs.length ≤ 65536 := hsh
  have HI := Lib.hid hI
  have HF := Lib.hid hF
  have HR := Lib.hid hR
  clear hI hF hR hsh
  go_enter Try.func7, Try.ntmps7
  go_wp2_with fail
  refine (known_calls w).mono ?_
  rintro e w1 ⟨rfl, B1⟩
  have hs1 := B1.size
  have HI1 := Lib.hid (HI.out.on B1)
  have HB1 := Lib.hid B1
  have cC := refcopy_calls (nodesL l + 1) l (by omega) (by have := HF.out.2.2; omega) HF.out.2.1 sv w1 HI1.out
  have CC := Lib.hid cC
  clear B1 cC HI
  go_wp2_with fail
  refine CC.out.mono ?_
  clear CC
  rintro e w2 ⟨v2, rfl, I2, B2⟩
  obtain ⟨A2, k2, rfl, _⟩ := I2.form
  have hs2 := B2.size
  have HB2 := Lib.hid (HB1.out.trans (B2.mono hs1))
  have HI2 := Lib.hid (HI1.out.on B2)
  have HW2 := Lib.hid (show Items (fun b => w1.heap.size ≤ b ∧ b < w2.heap.size) w2 (.slice A2 l.length k2) l from I2)
  have cE := encode_calls l HF.out.1 hlong sv w2 HI2.out
  rw [HR.out] at cE
  have CE := Lib.hid cE
  clear B2 I2 cE HB1 HI1
  go_wp2_with fail
  refine CE.out.mono ?_
  clear CE
  rintro e w3 ⟨v3, rfl, O3, B3⟩
  obtain ⟨A3, k3, hv3⟩ := O3.bytes.form
  change v3 = .slice A3 xs.length k3 at hv3
  subst hv3
  have hs3 := B3.size
  have hw12 : w.heap.size ≤ w2.heap.size := by omega
  have HB3 := Lib.hid (HB2.out.trans (B3.mono hw12))
  have HI3 := Lib.hid (HI2.out.on B3)
  have HW3 := Lib.hid (HW2.out.stay (by omega) B3)
  have HO3 := Lib.hid (show OwnB w3 w2.heap.size 5 (.slice A3 xs.length k3) xs from O3)
  have HR0 := Lib.hid HO3.out.1.lt
  have cE := encode_calls l HF.out.1 hlong sv w3 HI3.out
  rw [HR.out] at cE
  have CE := Lib.hid cE
  clear B3 O3 cE HB2 HI2 HW2
  go_wp2_with fail
  refine CE.out.mono ?_
  clear CE
  rintro e w4 ⟨v4, rfl, O4, B4⟩
  obtain ⟨A4, k4, hv4⟩ := O4.bytes.form
  change v4 = .slice A4 xs.length k4 at hv4
  subst hv4
  have hs4 := B4.size
  have HB4 := Lib.hid (HB3.out.trans (B4.mono (by omega)))
  have HI4 := Lib.hid (HI3.out.on B4)
  have HW4 := Lib.hid (HW3.out.stay (by omega) B4)
  have HO3' := Lib.hid (HO3.out.below B4)
  have HO4 := Lib.hid (show OwnB w4 w3.heap.size 5 (.slice A4 xs.length k4) xs from O4)
  have HR1 := Lib.hid HO4.out.1.lt
  clear B4 O4 HB3 HI3 HW3 HO3
  go_wp2_with fail
  refine (refsame_calls (nodesL l + 1) l l (by omega) hlong hlong HF.out.1 HF.out.1 _ _ _ _ w4 HI4.out HW4.out).mono ?_
  rintro e W ⟨rfl, d, rfl⟩
  rw [eqB_true rfl]
  have hd := below_drewN2 (Below.refl w4.heap.size w4) d
  have HB5 := Lib.hid (below_drewN2 HB4.out d)
  have HW5 := Lib.hid (HW4.out.stay (by omega) hd)
  have HP3 := Lib.hid (HO3'.out.below hd)
  have HP4 := Lib.hid (HO4.out.below hd)
  have hs5 := hd.size
  clear hd HB4 HI4 HW4 HO3' HO4
  generalize w4.drewN d = w5 at HB5 HW5 HP3 HP4 hs5 ⊢
  cases er with
  | succ k =>
    have hkI : ¬ (((k + 1 : Nat) : Int) = 0) := by omega
    go_wp2_with fail
    go_ret
    exact ⟨rfl, HB5.out⟩
  | zero =>
    have hdec : decR xs = (l, 0) := by have := decR_enc HF.out.1 (l := l) (by rw [HR.out]); rw [HR.out] at this; exact this
    have HDEC := Lib.hid hdec
    have cR := room_calls (.slice A3 xs.length k3) xs (by omega) w5 HP3.out.bytes
    have CR := Lib.hid cR
    clear cR hdec
    go_wp2_with fail
    refine CR.out.mono ?_
    clear CR
    rintro e w6 ⟨g6, k6, rfl, O6, B6⟩
    have hs6 := B6.size
    have HB6 := Lib.hid (HB5.out.trans (B6.mono (by omega)))
    have HW6 := Lib.hid (HW5.out.stay (by omega) B6)
    have HQ3 := Lib.hid (HP3.out.below B6)
    have HQ4 := Lib.hid (HP4.out.below B6)
    have HO6 := Lib.hid O6
    have HR2 := Lib.hid O6.1.lt
    have hF6 := O6.front xs.length (by omega) (by simp)
    rw [List.take_left' rfl] at hF6
    have HF6 := Lib.hid hF6
    have cD := decode_callsU xs (by omega) (.slice (some ⟨g6, 0, none⟩) xs.length k6) w6 hF6
    rw [HDEC.out] at cD
    have CD := Lib.hid cD
    clear B6 O6 hF6 cD HB5 HW5 HP3 HP4
    go_wp2_with fail
    refine CD.out.mono ?_
    clear CD
    rintro e w7 ⟨v7, rfl, B7, I7⟩
    obtain ⟨A7, k7, hv7, _⟩ := I7.form
    change v7 = .slice A7 l.length k7 at hv7
    subst hv7
    have hs7 := B7.size
    have HB7 := Lib.hid (HB6.out.trans (B7.mono (by omega)))
    have HW7 := Lib.hid (HW6.out.stay (by omega) B7)
    have HR3 := Lib.hid (HQ3.out.below B7)
    have HR4 := Lib.hid (HQ4.out.below B7)
    have HO7 := Lib.hid (HO6.out.below B7)
    have HL7 := Lib.hid (show Items (fun b => w6.heap.size ≤ b ∧ b < w7.heap.size ∧ Unf w7 b) w7 (.slice A7 l.length k7) l from I7)
    have cD := decode_calls xs (by omega) (.slice (some ⟨g6, 0, none⟩) xs.length k6) w7 (HF6.out.on B7)
    rw [HDEC.out] at cD
    have CD := Lib.hid cD
    clear B7 I7 cD HB6 HW6 HQ3 HQ4 HO6 HF6
    go_wp2_with fail
    refine CD.out.mono ?_
    clear CD
    rintro e w8 ⟨v8, rfl, B8, I8⟩
    obtain ⟨A8, k8, hv8, _⟩ := I8.form
    change v8 = .slice A8 l.length k8 at hv8
    subst hv8
    have hs8 := B8.size
    have HB8 := Lib.hid (HB7.out.trans (B8.mono (by omega)))
    have HW8 := Lib.hid (HW7.out.stay (by omega) B8)
    have HT3 := Lib.hid (HR3.out.below B8)
    have HT4 := Lib.hid (HR4.out.below B8)
    have HO8 := Lib.hid (HO7.out.below B8)
    have HL8 := Lib.hid (show Items (fun b => w6.heap.size ≤ b ∧ b < w7.heap.size ∧ Unf w8 b) w8 (.slice A7 l.length k7) l from HL7.out.keep (fun b hb => B8.block b hb.2.1) (fun b hb => ⟨hb.1, hb.2.1, hb.2.2.keep (B8.block b hb.2.1)⟩))
    have HM8 := Lib.hid (show Items (fun b => w7.heap.size ≤ b ∧ b < w8.heap.size) w8 (.slice A8 l.length k8) l from I8)
    have cK := kept_true (.slice A3 xs.length k3) xs (by omega) w8 w5.heap.size g6 k6 HO8.out HT3.out.bytes
    have CK := Lib.hid cK
    clear B8 I8 cK HB7 HW7 HR3 HR4 HO7 HL7
    go_wp2_with fail
    refine CK.out.mono ?_
    clear CK
    rintro e W ⟨rfl, rfl⟩
    have cW := wipe_calls (fun b => w6.heap.size ≤ b ∧ b < w7.heap.size ∧ Unf W b) W (fun b hb => hb.2.2) (nodesL l + 1) l (by omega) hlong HF.out.1 (.slice A7 l.length k7) W HL8.out (Wiped.refl _ _)
    have CW := Lib.hid cW
    clear cW HL8
    go_wp2_with fail
    refine CW.out.mono ?_
    clear CW
    rintro e w9 ⟨rfl, hW9⟩
    have hlow := hW9.low (n := w6.heap.size) (fun b hb => hb.1)
    have hs9 := hlow.size
    have HB9 := Lib.hid (HB8.out.trans (hlow.mono (by omega)))
    have HW9 := Lib.hid (HW8.out.keep (W' := w9) (T := fun b => w1.heap.size ≤ b ∧ b < w2.heap.size) (fun b hb => hlow.block b (by omega)) (fun _ hb => hb))
    have HM9 := Lib.hid (HM8.out.keep (W' := w9) (T := fun b => w7.heap.size ≤ b ∧ b < W.heap.size) (fun b hb => hW9.2.2.2.2.1 b (fun hS => by have := hS.2.1; omega)) (fun _ hb => hb))
    have HX3 := Lib.hid (ownB_at HT3.out (fun g hg => hlow.block g (by have := (HR0.out g hg).2; omega)))
    have HX4 := Lib.hid (ownB_at HT4.out (fun g hg => hlow.block g (by have := (HR1.out g hg).2; omega)))
    have HX6 := Lib.hid (ownB_at HO8.out (fun g hg => hlow.block g (by have := (HR2.out g hg).2; omega)))
    clear hW9 hlow HB8 HW8 HM8 HT3 HT4 HO8
    go_wp2_with fail
    refine (refsame_calls (nodesL l + 1) l l (by omega) hlong hlong HF.out.1 HF.out.1 _ _ _ _ w9 HM9.out HW9.out).mono ?_
    rintro e W2 ⟨rfl, d2, rfl⟩
    rw [eqB_true rfl]
    have hd := below_drewN2 (Below.refl w9.heap.size w9) d2
    have HB10 := Lib.hid (below_drewN2 HB9.out d2)
    have HW10 := Lib.hid (HW9.out.stay (by omega) hd)
    have HM10 := Lib.hid (HM9.out.stay (by omega) hd)
    have HY3 := Lib.hid (HX3.out.below hd)
    have HY4 := Lib.hid (HX4.out.below hd)
    have HY6 := Lib.hid (HX6.out.below hd)
    have hs10 := hd.size
    clear hd HB9 HW9 HM9 HX3 HX4 HX6
    generalize w9.drewN d2 = wd at HB10 HW10 HM10 HY3 HY4 HY6 hs10 ⊢
    obtain ⟨xl, hxl⟩ : ∃ xl, xs.length = xl := ⟨_, rfl⟩
    have hcap6 := HY6.out.capOk (by simp)
    rw [hxl] at hcap6
    rw [hxl]
    have hcI : (xl : Int) + 3 ≤ (k6 : Int) := by omega
    have hxI : (xl : Int) ≤ 65536 := by omega
    have hDi := distinct_three HR0.out HR1.out HR2.out (Nat.le_refl _) hs4 (by omega)
    have X3 := HY3.out
    have X4 := HY4.out.lowerB (show w2.heap.size ≤ w3.heap.size by omega)
    have X6 := HY6.out.lowerB (show w2.heap.size ≤ w5.heap.size by omega)
    rw [hxl] at X3 X4 X6 hDi
    have cA := apart_calls 3 (by omega) (three (.slice A3 xl k3) (.slice A4 xl k4) (.slice (some ⟨g6, 0, none⟩) (xl + 3) k6)) (three xl xl (xl + 3))
      (by intro j hj; rcases below_three hj with rfl | rfl | rfl <;> simp only [three] <;> omega) wd.heap.size 3
      #[.slice A3 xl k3, .slice A4 xl k4, .slice (some ⟨g6, 0, none⟩) (xl + 3) k6] (0, 0) w2.heap.size
      (wd.alloc (.cells #[.slice A3 xl k3, .slice A4 xl k4, .slice (some ⟨g6, 0, none⟩) (xl + 3) k6] 23))
      (by simp; omega) (by intro j hj; rcases below_three hj with rfl | rfl | rfl <;> rfl) (heap_alloc_new wd _) hDi
      (by
        intro j hj
        rcases below_three hj with rfl | rfl | rfl
        · exact ⟨_, hxl, X3.alloc _⟩
        · exact ⟨_, hxl, X4.alloc _⟩
        · exact ⟨_, by simp [three, hxl], X6.alloc _⟩)
    have CA := Lib.hid cA
    have HXL := Lib.hid hxl
    clear cA X3 X4 X6 hDi hxl
    go_wp2_with fail
    refine CA.out.mono ?_
    clear CA
    rintro e w11 ⟨rfl, hL11⟩
    have hs11 := hL11.1.size
    have HB11 := Lib.hid ((HB10.out.alloc (by have := HB10.out.size; omega) (.cells #[.slice A3 xl k3, .slice A4 xl k4, .slice (some ⟨g6, 0, none⟩) (xl + 3) k6] 23)).trans (hL11.1.mono hw12))
    have HW11 := Lib.hid (HW10.out.keep (W' := w11) (T := fun b => w1.heap.size ≤ b ∧ b < w2.heap.size) (fun b hb => (hL11.1.block b hb.2).trans (Below.heap_alloc _ _ _ (by omega))) (fun _ hb => hb))
    have HM11 := Lib.hid (HM10.out.keep (W' := w11) (T := fun b => w7.heap.size ≤ b ∧ b < W.heap.size) (fun b hb => (hL11.2 b (by simp; omega) (fun j hj hno => by
      rcases below_three hj with rfl | rfl | rfl
      · have := (HR0.out b (by rw [HXL.out]; exact hno)).2; omega
      · have := (HR1.out b (by rw [HXL.out]; exact hno)).2; omega
      · have := (HR2.out b (by rw [HXL.out]; exact hno)).2; omega)).trans (Below.heap_alloc _ _ _ (by omega))) (fun _ hb => hb))
    clear hL11 HB10 HW10 HM10 HY3 HY4 HY6
    go_wp2_with fail
    refine (refsame_calls (nodesL l + 1) l l (by omega) hlong hlong HF.out.1 HF.out.1 _ _ _ _ w11 HM11.out HW11.out).mono ?_
    rintro e W3 ⟨rfl, d3, rfl⟩
    rw [eqB_true rfl]
    have HB12 := Lib.hid (below_drewN2 HB11.out d3)
    clear HB11 HW11 HM11
    go_wp2_with fail
    go_ret
    exact ⟨rfl, HB12.out⟩

end Go.Proofs.Ytjahkbomminglaa.Wire
