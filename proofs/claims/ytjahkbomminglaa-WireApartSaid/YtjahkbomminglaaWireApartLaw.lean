/-
  The walk of the law WireApart.
-/
import Derived.Test.YtjahkbomminglaaWireAlike
namespace Go.Proofs.Ytjahkbomminglaa.Wire
open Go Go.RowKit Go.Sort Go.Proofs.Ytjahkbomminglaa.Law

/-- Are the bytes one text? -/
theorem text_eq {xs ys : List Nat} (hx : ∀ z ∈ xs, z < 256) (hy : ∀ z ∈ ys, z < 256) : ((str xs).toList == (str ys).toList) = decide (xs = ys) := by
  by_cases h : xs = ys
  · subst h; simp
  · rw [decide_eq_false h]
    exact (Lib.bytes_beq_false_iff _ _).2 fun e => h (str_inj hx hy e)

set_option maxRecDepth 100000 in
set_option maxHeartbeats 8000000 in
theorem wireApart_law (a b : List Item) (hA : Fits a) (hB : Fits b) (sv tv : Value) (w : World) (hI : Old w.heap.size w sv a) (hJ : Old w.heap.size w tv b) :
    Calls Try.prog 8 #[sv, tv] w fun e W => e = .returned (.bool true) ∧ Below w.heap.size w W := by
  have hla : a.length ≤ 9223372036854775807 := by have := hA.2.2; omega
  have hlb : b.length ≤ 9223372036854775807 := by have := hB.2.2; omega
  have cE := encode_calls a hA.1 hla sv w hI
  obtain ⟨⟨xs, ea⟩, hRa⟩ : ∃ R, encN a = R := ⟨_, rfl⟩
  obtain ⟨⟨ys, eb⟩, hRb⟩ : ∃ R, encN b = R := ⟨_, rfl⟩
  rw [hRa] at cE
  have CE := Lib.hid cE
  have HI := Lib.hid hI
  have HJ := Lib.hid hJ
  have HRa := Lib.hid hRa
  have HRb := Lib.hid hRb
  have HA := Lib.hid hA
  have HB := Lib.hid hB
  clear cE hI hJ hRa hRb hA hB
  go_enter Try.func8, Try.ntmps8
  go_wp2_with fail
  refine CE.out.mono ?_
  rintro e w1 ⟨v1, rfl, O1, B1⟩
  have hs1 := B1.size
  have cF := encode_calls b HB.out.1 hlb tv w1 (HJ.out.on B1)
  rw [HRb.out] at cF
  have CF := Lib.hid cF
  have HO1 := Lib.hid O1
  have HI1 := Lib.hid (HI.out.on B1)
  have HJ1 := Lib.hid (HJ.out.on B1)
  have HB1 := Lib.hid B1
  clear CE cF O1 B1 HI HJ
  go_wp2_with fail
  refine CF.out.mono ?_
  rintro e w2 ⟨v2, rfl, O2, B2⟩
  have HB2 := Lib.hid (HB1.out.trans (B2.mono hs1))
  have hs2 := HB2.out.size
  have hO1 := HO1.out.below B2
  have HI2 := Lib.hid (HI1.out.on B2)
  have HJ2 := Lib.hid (HJ1.out.on B2)
  clear CF B2 HB1 HO1 HI1 HJ1
  obtain ⟨A1, c1, rfl⟩ := hO1.bytes.form
  obtain ⟨A2, c2, hv2⟩ := O2.bytes.form
  change v2 = .slice A2 ys.length c2 at hv2
  subst hv2
  by_cases hok : ea = 0 ∧ eb = 0
  · obtain ⟨rfl, rfl⟩ := hok
    have htext := text_eq hO1.2 O2.2
    have hsame : decide (xs = ys) = eqB a b := by
      by_cases h : a = b
      · rw [eqB_true h]
        subst h
        have := HRa.out.symm.trans HRb.out
        simp only [Prod.mk.injEq, and_true] at this
        simpa using this
      · rw [eqB_false h]
        refine decide_eq_false fun e => h ?_
        exact enc_inj HA.out.1 HB.out.1 (by rw [HRa.out]) (by rw [HRb.out]) (by rw [HRa.out, HRb.out]; exact e)
    obtain ⟨q, hq⟩ : ∃ q, eqB a b = q := ⟨_, rfl⟩
    rw [hsame, hq] at htext
    have cv1 := fun d os => run_string_bytes (P := Try.prog) (grow (redrawn w2 d) os) Try.underlying23 Try.underlying5 Try.underlying9 (hO1.bytes.on (below_regrown w2 d os))
    have cv2 := fun d os => run_string_bytes (P := Try.prog) (grow (redrawn w2 d) os) Try.underlying23 Try.underlying5 Try.underlying9 (O2.bytes.on (below_regrown w2 d os))
    have cA := fun d os => alike_calls a b HA.out.1 HB.out.1 hla hlb (by rw [HRa.out]) (by rw [HRb.out]) sv tv (grow (redrawn w2 d) os) (HI2.out.on (below_regrown w2 d os)) (HJ2.out.on (below_regrown w2 d os))
    rw [hq] at cA
    have cA2 := fun d os => Calls.regrown_of (d := d) (os := os) (cA d os)
    have cK2 := fun d os => Calls.regrown_of (d := d) (os := os) (known_calls (grow (redrawn w2 d) os))
    have CA := Lib.hid cA2
    have CK := Lib.hid cK2
    clear hO1 O2 cA cA2 cK2 hsame hq
    go_wp2_with fail
    refine wp_region_quiet_below (by kernel_rfl) (by kernel_rfl) ?_
    repeat (go_big_quiet_step ((first | exact CK.out _ _ | exact CA.out _ _)))
    refine wpQuiet_nil ?_
    intro w' hw'
    obtain ⟨⟨d, os⟩, rfl⟩ := hw'
    have HB3 := Lib.hid (HB2.out.trans ((below_regrown w2 d os).mono hs2))
    clear CA CK cv1 cv2 HB2
    generalize grow (redrawn w2 d) os = w3 at HB3 ⊢
    have hqq : ∀ x : Bool, (x == x) = true := fun x => by cases x <;> rfl
    go_wp2_with fail
    go_ret
    exact ⟨rfl, HB3.out⟩
  · have HNO := Lib.hid hok
    have hsa : ea ≠ 0 → xs = [] := fun h => by
      have h1 := HRa.out
      unfold encN at h1
      split at h1
      · simp only [Prod.mk.injEq] at h1; exact h1.1.symm
      · split at h1
        · simp only [Prod.mk.injEq] at h1; exact h1.1.symm
        · simp only [Prod.mk.injEq] at h1; exact absurd h1.2.symm h
    have hsb : eb ≠ 0 → ys = [] := fun h => by
      have h1 := HRb.out
      unfold encN at h1
      split at h1
      · simp only [Prod.mk.injEq] at h1; exact h1.1.symm
      · split at h1
        · simp only [Prod.mk.injEq] at h1; exact h1.1.symm
        · simp only [Prod.mk.injEq] at h1; exact absurd h1.2.symm h
    have hcases : (ea ≠ 0 ∧ eb ≠ 0) ∨ (ea ≠ 0 ∧ eb = 0) ∨ (ea = 0 ∧ eb ≠ 0) := by omega
    clear hok hO1 O2
    rcases hcases with ⟨h1, h2⟩ | ⟨h1, rfl⟩ | ⟨rfl, h2⟩
    · obtain rfl := hsa h1
      obtain rfl := hsb h2
      have g1 : ((ea : Int) != 0) = true := by rw [bne_iff_ne]; omega
      have g2 : ((ea : Int) == 0) = false := by rw [beq_eq_false_iff_ne]; omega
      have g3 : ((eb : Int) == 0) = false := by rw [beq_eq_false_iff_ne]; omega
      clear hsa hsb h1 h2
      go_wp2_with fail
      refine (known_calls w2).mono ?_
      rintro e w3 ⟨rfl, B3⟩
      have HB3 := Lib.hid (HB2.out.trans (B3.mono hs2))
      clear B3
      go_wp2_with fail
      go_ret
      exact ⟨rfl, HB3.out⟩
    · obtain rfl := hsa h1
      have g1 : ((ea : Int) != 0) = true := by rw [bne_iff_ne]; omega
      have g2 : ((ea : Int) == 0) = false := by rw [beq_eq_false_iff_ne]; omega
      clear hsa hsb h1
      go_wp2_with fail
      refine (known_calls w2).mono ?_
      rintro e w3 ⟨rfl, B3⟩
      have HB3 := Lib.hid (HB2.out.trans (B3.mono hs2))
      clear B3
      go_wp2_with fail
      go_ret
      exact ⟨rfl, HB3.out⟩
    · obtain rfl := hsb h2
      have g1 : ((eb : Int) != 0) = true := by rw [bne_iff_ne]; omega
      have g2 : ((eb : Int) == 0) = false := by rw [beq_eq_false_iff_ne]; omega
      clear hsa hsb h2
      go_wp2_with fail
      refine (known_calls w2).mono ?_
      rintro e w3 ⟨rfl, B3⟩
      have HB3 := Lib.hid (HB2.out.trans (B3.mono hs2))
      clear B3
      go_wp2_with fail
      go_ret
      exact ⟨rfl, HB3.out⟩

end Go.Proofs.Ytjahkbomminglaa.Wire
