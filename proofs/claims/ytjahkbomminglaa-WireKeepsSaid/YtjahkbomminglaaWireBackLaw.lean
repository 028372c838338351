/-
  The walk of the law WireBack.
-/
import Derived.Test.YtjahkbomminglaaWireDecodesLaw
namespace Go.Proofs.Ytjahkbomminglaa.Wire
open Go Go.RowKit Go.Proofs.Ytjahkbomminglaa.Law

theorem decR_enc {l : List Item} (hs : sizedL l) (h : (encN l).2 = 0) : decR (encN l).1 = (l, 0) := by unfold decR; rw [dec_enc hs h]; rfl
theorem enc_lt {l : List Item} {W : World} {b : Nat} {e : TypeId} {v : Value} (h : OwnB W b e v (encN l).1) : ∀ x ∈ (encN l).1, x < 256 := h.2
theorem encN_short (l : List Item) : (encN l).1.length ≤ 65536 := by
  unfold encN
  split
  · simp
  · split
    · simp
    · dsimp only; omega
theorem decR_error {bs : List Nat} (h : (decR bs).2 ≠ 0) : (decR bs).1 = [] := by
  unfold decR at h ⊢
  match hq : decN bs with
  | .error k => rfl
  | .ok l => rw [hq] at h; exact absurd rfl h
theorem decR_back {bs : List Nat} (hb : ∀ x ∈ bs, x < 256) (h : (decR bs).2 = 0) (hk : ∀ k, decN bs = .error k → k ≠ 0) : encN (decR bs).1 = (bs, 0) := by
  unfold decR at h ⊢
  match hq : decN bs with
  | .error k => rw [hq] at h; exact absurd h (hk k hq)
  | .ok l => exact (dec_back hb hq).1
theorem rdTop_err : ∀ (f c : Nat) (bs : List Nat) (acc : List Item) (k : Nat), rdTop f c bs acc = .error k → k ≠ 0 := by
  intro f
  induction f with
  | zero => intro c bs acc k h; simp [rdTop] at h; omega
  | succ f ih =>
    intro c bs acc k h
    rw [rdTop] at h
    split at h
    · cases h
    · match hq : rdI 8 c bs with
      | .error e => rw [hq] at h; simp only [Except.error.injEq] at h; subst h; exact rdI_err _ _ _ _ hq
      | .ok (y, c2, r2) => rw [hq] at h; exact ih _ _ _ _ h
theorem decN_err {bs : List Nat} {k : Nat} (h : decN bs = .error k) : k ≠ 0 := by
  unfold decN at h
  split at h
  · simp only [Except.error.injEq] at h; omega
  · exact rdTop_err _ _ _ _ _ h

set_option maxRecDepth 100000 in
set_option maxHeartbeats 8000000 in
theorem wireBack_law (l : List Item) (hF : Fits l) (bs : List Nat) (hl : bs.length ≤ 140737488351232) (sv tv : Value) (w : World) (hI : Old w.heap.size w sv l) (hJ : Bytes w.heap.size w tv bs) :
    Calls Try.prog 5 #[sv, tv] w fun e W => e = .returned (.bool true) ∧ Below w.heap.size w W := by
  have hlong : l.length ≤ 9223372036854775807 := by have := hF.2.2; omega
  have hfit := decR_fits hJ.lt
  have hlt := hJ.lt
  have HI := Lib.hid hI
  have HJ := Lib.hid hJ
  have HLT := Lib.hid hlt
  have HF := Lib.hid hF
  obtain ⟨⟨bs1, er⟩, hR⟩ : ∃ R, encN l = R := ⟨_, rfl⟩
  have hsh := encN_short l
  rw [hR] at hsh
  obtain ⟨⟨l2, er2⟩, hR2⟩ : ∃ R, decR bs = R := ⟨_, rfl⟩
  rw [hR2] at hfit
  have hll := len_nodes l2
  have HFIT := Lib.hid hfit
  have HR := Lib.hid hR
  have HR2 := Lib.hid hR2
  have HSH := Lib.hid hsh
  have hl2 : l2.length ≤ 4096 := by have h : nodesL l2 ≤ 4096 := hfit.2; omega
  clear hI hJ hlt hR hR2 hF hfit hll hsh
  go_enter Try.func5, Try.ntmps5
  go_wp2_with fail
  refine (known_calls w).mono ?_
  rintro e w1 ⟨rfl, B1⟩
  have hs1 := B1.size
  have cE := encode_calls l HF.out.1 hlong sv w1 (HI.out.on B1)
  rw [HR.out] at cE
  have CE := Lib.hid cE
  have HJ1 := Lib.hid (HJ.out.on B1)
  have HI1 := Lib.hid (HI.out.on B1)
  have HB1 := Lib.hid B1
  clear cE B1 HJ HI
  go_wp2_with fail
  refine CE.out.mono ?_
  rintro e w2 ⟨v2, rfl, O2, B2⟩
  have HB2 := Lib.hid (HB1.out.trans (B2.mono hs1))
  have hs2 := HB2.out.size
  have HJ2 := Lib.hid (HJ1.out.on B2)
  have HI2 := Lib.hid (HI1.out.on B2)
  have HO2 := Lib.hid O2
  clear CE B2 HB1 HJ1 HI1 O2
  -- the rest, from whatever world
  have rest : ∀ (w3 : World), Below w.heap.size w w3 → Bytes w3.heap.size w3 tv bs → Calls Try.prog 13 #[tv] w3 (Decoded w3.heap.size w3 (l2, er2)) := fun w3 _ hJ3 => by
    have := decode_calls bs (by omega) tv w3 hJ3
    rw [HR2.out] at this
    exact this
  have REST := Lib.hid rest
  clear rest
  cases er
  case' zero =>
    obtain ⟨A2, cap2, rfl⟩ := HO2.out.bytes.form
    have cD := decode_calls bs1 (by have := HSH.out; omega) _ w2 HO2.out.bytes
    have he : decR bs1 = (l, 0) := by have := decR_enc HF.out.1 (l := l) (by rw [HR.out]); rw [HR.out] at this; exact this
    rw [he] at cD
    have CD := Lib.hid cD
    clear cD he
    go_wp2_with fail
    refine CD.out.mono ?_
    rintro e w3 ⟨v3, rfl, B3, O3⟩
    obtain ⟨A3, c3, rfl, _⟩ := O3.form
    have HB3 := Lib.hid (HB2.out.trans (B3.mono hs2))
    have hs3 := HB3.out.size
    have HJ3 := Lib.hid (HJ2.out.on B3)
    have HI3 := Lib.hid (HI2.out.on B3)
    have HO3 := Lib.hid O3
    clear CD B3 HB2 HJ2 HI2 O3
    go_wp2_with fail
    refine (refsame_calls (nodesL l + 1) l l (by omega) hlong hlong HF.out.1 HF.out.1 _ _ _ _ w3 HO3.out HI3.out).mono ?_
    rintro e W ⟨rfl, d, rfl⟩
    rw [eqB_true rfl]
    have HB4 := Lib.hid (below_drewN2 HB3.out d)
    have HJ4 : Hid (Bytes (w3.drewN d).heap.size (w3.drewN d) tv bs) := Lib.hid (HJ3.out.on (below_drewN2 (Below.refl _ _) d))
    clear HB3 HJ3 HI3 HO3
    generalize w3.drewN d = w4 at HB4 HJ4 ⊢
    have hs4 := HB4.out.size
    clear hs3 hs2
    go_wp2_with fail
  case' succ k =>
    have hkI : ¬ (((k + 1 : Nat) : Int) = 0) := by omega
    obtain ⟨w4, hw4⟩ : ∃ w4, w2 = w4 := ⟨_, rfl⟩
    subst hw4
    have HB4 := Lib.hid HB2.out
    have HJ4 := Lib.hid HJ2.out
    have hs4 := HB4.out.size
    clear HB2 HJ2 hs2 hs1 HO2
    go_wp2_with fail
  all_goals
    refine (REST.out _ HB4.out HJ4.out).mono ?_
    clear REST
    rintro e w5 ⟨v5, rfl, B5, O5⟩
    obtain ⟨A5, c5, rfl, _⟩ := O5.form
    have HB5 := Lib.hid (HB4.out.trans (B5.mono hs4))
    have hs5 := HB5.out.size
    have HJ5 := Lib.hid (HJ4.out.on B5)
    have HO5 := Lib.hid (O5.mono (fun b hb => hb.2))
    clear B5 O5 HB4 HJ4 hs4
    cases er2 with
    | zero =>
      have cE := encode_calls l2 HFIT.out.1 (by omega) _ w5 HO5.out
      have hb := decR_back HLT.out (by rw [HR2.out]) (fun k h => decN_err h)
      rw [HR2.out] at hb
      change encN l2 = _ at hb
      rw [hb] at cE
      have CE2 := Lib.hid cE
      clear cE hb
      go_wp2_with fail
      refine CE2.out.mono ?_
      clear CE2
      rintro e w6 ⟨v6, rfl, O6, B6⟩
      have HB6 := Lib.hid (HB5.out.trans (B6.mono hs5))
      have HJ6 := Lib.hid (HJ5.out.on B6)
      have HO6 := Lib.hid O6.bytes
      clear B6 O6 HB5 HJ5 HO5
      go_wp2_with fail
      refine (same_true _ _ bs w6 HO6.out HJ6.out).mono ?_
      rintro e W ⟨rfl, rfl⟩
      go_wp2
      go_ret
      exact ⟨rfl, HB6.out⟩
    | succ k =>
      have hnil : l2 = [] := by
        have := decR_error (bs := bs) (by rw [HR2.out]; exact Nat.succ_ne_zero k)
        rw [HR2.out] at this
        exact this
      subst hnil
      have hkJ : ¬ (((k + 1 : Nat) : Int) = 0) := by omega
      clear HO5 HJ5
      go_wp2_with fail
      go_ret
      exact ⟨rfl, HB5.out⟩

end Go.Proofs.Ytjahkbomminglaa.Wire
