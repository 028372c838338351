/-
  Contract of the document's Order.
-/
import Derived.Test.YtkofipbkfniplaaModelPass
import Derived.Test.YtkofipbkfniplaaModelTake
import Derived.Test.YtkofipbkfniplaaTwoCut
import Derived.Test.YtkofipbkfniplaaHeldTail
import Derived.Deep.QuietTactic
import Derived.BigQuiet
import Derived.Deep.RegionHeld3
namespace Go.Proofs.Ytkofipbkfniplaa.Model
open Go Go.RowKit Go.Lib Go.Proofs.Ytkofipbkfniplaa.Law Go.Proofs.Ytkofipbkfniplaa.Graph Go.Proofs.Ytkofipbkfniplaa.Fold

set_option maxRecDepth 100000 in
set_option maxHeartbeats 4000000 in
theorem below_calls (a b : Pr) (w : World) : Calls Try.prog 26 #[.agg #[pk a, pv a], .agg #[pk b, pv b]] w (fun e W => e = .returned (.bool (ltP a b)) ∧ W = (w.alloc (prObj a)).alloc (prObj b)) := by
  dsimp only [pk, pv]
  have hlt : ∀ {x y : ByteArray}, ltN x y = Op.bytesLess x.toList y.toList := rfl
  cases hl : Op.bytesLess a.key.toList b.key.toList with
  | true =>
    have hv : ltP a b = true := by simp [ltP, hlt, hl]
    go_enter Try.func26, Try.ntmps26
    go_wp2_with fail
    go_ret
    exact ⟨by first | rfl | (rw [hv]; rfl), by first | rfl | (simp only [prObj, hk])⟩
  | false =>
    by_cases hk : a.key = b.key
    · have ek : (b.key.toList == b.key.toList) = true := by simp
      have hl' : ltN a.key b.key = false := hl
      rw [hk] at hl
      obtain ⟨r, hr⟩ : ∃ r, ltP a b = r := ⟨_, rfl⟩
      rw [hr]
      by_cases hval : a.val < b.val
      · have hI : ((a.val : Nat) : Int) < ((b.val : Nat) : Int) := by omega
        have hv : r = true := by rw [← hr]; simp [ltP, hk, hval]
        go_enter Try.func26, Try.ntmps26
        go_wp2_with fail
        go_ret
        exact ⟨by first | rfl | (rw [hv]; rfl), by first | rfl | (simp only [prObj, hk])⟩
      · have hI : ¬ ((a.val : Nat) : Int) < ((b.val : Nat) : Int) := by omega
        have hd : decide (a.val < b.val) = false := decide_eq_false hval
        have hv : r = false := by
          rw [← hr]
          simp [ltP, hl', hd]
        go_enter Try.func26, Try.ntmps26
        go_wp2_with fail
        go_ret
        exact ⟨by first | rfl | (rw [hv]; rfl), by first | rfl | (simp only [prObj, hk])⟩
    · have ek : (a.key.toList == b.key.toList) = false := by
        rw [beq_eq_false_iff_ne]
        intro h0
        apply hk
        rw [Lib.toList_data, Lib.toList_data] at h0
        exact ByteArray.ext (Array.toList_inj.1 h0)
      have hv : ltP a b = false := by
        have : ltN a.key b.key = false := hl
        simp [ltP, this, hk]
      clear hk
      go_enter Try.func26, Try.ntmps26
      go_wp2_with fail
      go_ret
      exact ⟨by first | rfl | (rw [hv]; rfl), by first | rfl | (simp only [prObj, hk])⟩


/-- A slice's length. -/
def slN : Value → Nat
  | .slice _ n _ => n
  | _ => 0
theorem ordN_small {l : List Pr} (h : l.length < 2) : ordN l = l := by
  refine (ordN_of (List.Perm.refl _) ?_).symm
  match l, h with
  | [], _ => exact List.Pairwise.nil
  | [a], _ => exact List.pairwise_singleton _ _
/-- What two ordered rows come to. -/
def mergeN (a b : List Pr) : List Pr := ordN (a ++ b)
theorem ordered_cons {x : Pr} {l : List Pr} (h : Ordered (x :: l)) : (∀ y ∈ l, ltP y x = false) ∧ Ordered l := by
  have := List.pairwise_cons.1 h
  exact ⟨this.1, this.2⟩
theorem ltP_false_trans {a b c : Pr} (h1 : ltP b a = false) (h2 : ltP c b = false) : ltP c a = false := by
  cases h : ltP c a with
  | false => rfl
  | true =>
    exfalso
    by_cases hab : a = b
    · subst hab; rw [h2] at h; cases h
    · have := ltP_trans h (ltP_total h1 (Ne.symm hab))
      rw [h2] at this; cases this
/-- The lesser of two heads comes first. -/
theorem ordN_head {x : Pr} {a b : List Pr} (ha : Ordered (x :: a)) (hb : Ordered b) (h : ∀ y, b.head? = some y → ltP y x = false) : ordN (x :: a ++ b) = x :: ordN (a ++ b) := by
  refine (ordN_of ?_ ?_).symm
  · exact ((ordN_perm (a ++ b)).cons x)
  · refine List.Pairwise.cons (fun y hy => ?_) (ordN_ordered _)
    have hy' := (ordN_perm (a ++ b)).mem_iff.1 hy
    rcases List.mem_append.1 hy' with h1 | h1
    · exact (ordered_cons ha).1 y h1
    · match b, hb, h, h1 with
      | z :: r, hb, h, h1 =>
        have hz := h z rfl
        rcases List.mem_cons.1 h1 with rfl | h2
        · exact hz
        · exact ltP_false_trans hz ((ordered_cons hb).1 y h2)
theorem ordN_head2 {y : Pr} {a b : List Pr} (ha : Ordered a) (hb : Ordered (y :: b)) (h : ∀ x, a.head? = some x → ltP y x = true) : ordN (a ++ y :: b) = y :: ordN (a ++ b) := by
  have h1 : ordN (a ++ y :: b) = ordN ((y :: b) ++ a) := ordN_congr List.perm_append_comm
  rw [h1, ordN_head hb ha (fun x hx => ltP_asymm (h x hx))]
  rw [ordN_congr (List.perm_append_comm (l₁ := b) (l₂ := a))]
theorem Ordered.tail {x : Pr} {l : List Pr} (h : Ordered (x :: l)) : Ordered l := (ordered_cons h).2
theorem ordN_halves (l : List Pr) (k : Nat) : ordN (ordN (l.take k) ++ ordN (l.drop k)) = ordN l := by
  refine ordN_congr ?_
  have := (ordN_perm (l.take k)).append (ordN_perm (l.drop k))
  rwa [List.take_append_drop] at this
theorem elem_pair2 : Try.prog.underlying 28 = some (.slice (Try.prog.elem 28)) := by kernel_rfl
theorem size_pair (w : World) : (sizeOf (Try.prog.elem 28)).run Try.prog w = .ok 2 w := by
  have : Try.prog.elem 28 = 50 := by kernel_rfl
  obtain ⟨i0, hi, _, hz1, _⟩ := info_parts info_pair
  exact size_two (i := i0) (by rw [this]; exact hi) hz1 w

set_option maxRecDepth 100000 in
set_option maxHeartbeats 8000000 in
theorem refOrder_calls : ∀ (n : Nat) (l : List Pr), l.length = n → ∀ (_hl : n * 24 ≤ 140737488351232) (v : Value) (w : World), OldP w.heap.size w v l → Calls Try.prog 15 #[v] w (RetP (ordN l) w) := by
  intro n
  induction n using Nat.strongRecOn with
  | ind n ih =>
    intro l hn hl v w hI
    obtain ⟨A, cap, rfl, _⟩ := hI.form
    have hB1 : Below w.heap.size w (w.alloc (.cells #[] 50)) := (Below.refl _ _).alloc (Nat.le_refl _) _
    rw [hn] at hI ⊢
    have hnn : n ≤ 5864062014635 := by omega
    by_cases h2 : n < 2
    · have h2I : (n : Int) < 2 := by omega
      have hrow : OwnP (w.alloc (.cells #[] 50)) w.heap.size (.slice (some ⟨w.heap.size, 0, none⟩) 0 0) [] := World.ownsRow_lit (base := w.heap.size) (size := 2) (e := 50) w #[] 0 (Nat.le_refl _) (by decide) rfl
      obtain ⟨i0, hi, hz0, hz1, hz2⟩ := info_parts info_pair
      obtain ⟨v', W', hrun, hO, hG, _⟩ := OwnTwo.appendAt (P := Try.prog) (t := 28) 28 pk_one pv_one Try.underlying28 hi hz0 hz1 hz2 (by decide) hrow hB1.size (TwoAt.low hB1 hI) (by simp only [List.length_nil]; unfold maxLen; omega) (by simp only [List.length_nil]; omega)
      have hB2 : Below w.heap.size w W' := hB1.grown hG hB1.size (fun k hk => by simp [Value.ownBlock] at hk; omega)
      obtain ⟨A', c', rfl, _⟩ := hO.form
      simp only [List.nil_append, hn] at hrun hO
      have HF : Hid (RetP (ordN l) w (.returned (.slice A' n c')) W') := Lib.hid ⟨_, rfl, by rw [ordN_small (by omega)]; exact hO, hB2⟩
      have R := Lib.hid hrun
      clear hrun hO hG hB2 hrow hB1 ih
      go_enter Try.func15, Try.ntmps15
      go_wp2_with (at_builtin; refine wpList_append_ran rfl _ _ _ rfl rfl rfl R.out ?_)
      go_ret
      exact HF.out
    · have h2I : ¬ (n : Int) < 2 := by omega
      have h2d : decide (n < 2) = false := decide_eq_false h2
      obtain ⟨h, hh⟩ : ∃ h, n / 2 = h := ⟨_, rfl⟩
      have hdiv : (n : Int).tdiv 2 = (h : Int) := by rw [Int.tdiv_eq_ediv_of_nonneg (by omega)]; omega
      have hdiv2 : (n : Int) / 2 = (h : Int) := by omega
      have hhn : h < n := by omega
      have hh1 : 1 ≤ h := by omega
      obtain ⟨v1, R1, T1⟩ := run_ahead_two (P := Try.prog) (t := 28) elem_pair2 size_pair hI .i64 (k := h) (by omega)
      obtain ⟨v2, R2, T2⟩ := run_behind_two (P := Try.prog) (t := 28) elem_pair2 size_pair hI .i64 (k := h) (by omega)
      have C1 := Lib.hid (ih h hhn (l.take h) (by rw [List.length_take]; omega) (by omega) v1 w T1)
      have C2 := Lib.hid fun (W : World) (hB : Below w.heap.size w W) => ih (n - h) (by omega) (l.drop h) (by rw [List.length_drop]; omega) (by omega) v2 W ((TwoAt.low hB T2).mono fun _ hk => Nat.lt_of_lt_of_le hk hB.size)
      have HR1 := Lib.hid R1
      have HR2 := Lib.hid R2
      have HN := Lib.hid hn
      have hln1 : (ordN (l.take h)).length = h := by rw [ordN_length, List.length_take]; omega
      have hln2 : (ordN (l.drop h)).length = n - h := by rw [ordN_length, List.length_drop]; omega
      clear R1 R2 T1 T2 ih hI hn hB1 hh
      go_enter Try.func15, Try.ntmps15
      go_wp2_with (refine wpList_cut_ran rfl rfl rfl rfl rfl rfl (HR1.out _) ?_)
      refine C1.out.mono ?_
      rintro e W1 ⟨va, rfl, hO1, hB1⟩
      have C2' := Lib.hid (C2.out W1 hB1)
      obtain ⟨A1, c1, rfl, _⟩ := hO1.form
      rw [hln1] at hO1 ⊢
      have HO1 := Lib.hid hO1
      have HB1 := Lib.hid hB1
      clear hO1 hB1 C1 C2
      go_wp2_with (refine wpList_cut_ran rfl rfl rfl rfl rfl rfl (HR2.out _) ?_)
      refine C2'.out.mono ?_
      rintro e W2 ⟨vb, rfl, hO2, hB2⟩
      obtain ⟨A2, c2, rfl, _⟩ := hO2.form
      rw [hln2] at hO2 ⊢
      obtain ⟨q, hq⟩ : ∃ q, W2.heap.size = q := ⟨_, rfl⟩
      have hT1 : OldP q W2 (.slice A1 h c1) (ordN (l.take h)) := by rw [← hq]; exact (HO1.out.below hB2).old
      have hT2 : OldP q W2 (.slice A2 (n - h) c2) (ordN (l.drop h)) := by rw [← hq]; exact hO2.old
      have HQ2 := Lib.hid hq
      have HBW2 : Hid (Below w.heap.size w W2) := Lib.hid (HB1.out.trans (hB2.mono HB1.out.size))
      have HST : Hid (∃ (la lb lo : List Pr), la.length = h ∧ lb.length = n - h ∧ lo.length = 0 ∧ (OldP q W2 (.slice A1 h c1) la ∧ OldP q W2 (.slice A2 (n - h) c2) lb ∧ OwnP W2 q (.slice none 0 0) lo ∧ Below q W2 W2) ∧ Ordered la ∧ Ordered lb ∧ lo ++ ordN (la ++ lb) = ordN l) := Lib.hid
        ⟨_, _, [], hln1, hln2, rfl, ⟨hT1, hT2, OwnTwo.nil _ _ _, by rw [← hq]; exact Below.refl _ _⟩, ordN_ordered _, ordN_ordered _, by rw [List.nil_append]; exact ordN_halves l h⟩
      clear hO2 hB2 C2' hT1 hT2 HR1 HR2 HO1 hln1 hln2 hq hdiv hdiv2 HB1
      go_wp2_with fail
      go_loopw [3, 4, 5] (fun a b o wr => ∃ (m1 m2 m3 a1 a2 a3 : Nat) (A B O : Option Addr), a = .slice A m1 a1 ∧ b = .slice B m2 a2 ∧ o = .slice O m3 a3 ∧ m1 + m2 + m3 = n ∧ Hid (∃ (la lb lo : List Pr), la.length = m1 ∧ lb.length = m2 ∧ lo.length = m3 ∧ (OldP q wr (.slice A m1 a1) la ∧ OldP q wr (.slice B m2 a2) lb ∧ OwnP wr q (.slice O m3 a3) lo ∧ Below q W2 wr) ∧ Ordered la ∧ Ordered lb ∧ lo ++ ordN (la ++ lb) = ordN l)) (fun a b _ _ => slN a + slN b)
      case atStart => exact ⟨h, n - h, 0, c1, c2, 0, A1, A2, none, rfl, rfl, rfl, by omega, HST⟩
      case round =>
        obtain ⟨m1, m2, m3, a1, a2, a3, A, B, O, rfl, rfl, rfl, hsum, HH⟩ := hrel
        obtain ⟨la, lb, lo, hm1, hm2, hm3, hrel, hord⟩ := HH.out
        have HREL := Lib.hid hrel
        have HORD := Lib.hid hord
        have HQW : Hid (q ≤ wr.heap.size) := Lib.hid (by rw [← HQ2.out]; exact hrel.2.2.2.size)
        have HM3 := Lib.hid hm3
        clear hrel hord hm3 HH HST
        have hb1 : m1 ≤ n := by omega
        have hb2 : m2 ≤ n := by omega
        match lb, hm2, HREL, HORD with
        | [], hm2, HREL, HORD =>
          obtain rfl : m2 = 0 := hm2.symm
          match la, hm1, HREL, HORD with
          | [], hm1, HREL, HORD =>
            obtain rfl : m1 = 0 := hm1.symm
            have HF : Hid (RetP (ordN l) w (.returned (.slice O m3 a3)) wr) := Lib.hid ⟨_, rfl, by
              have := HORD.out.2.2
              have e : ordN ([] ++ [] : List Pr) = [] := ordN_small (by simp)
              rw [e, List.append_nil] at this
              rw [← this]
              exact HREL.out.2.2.1.base (by rw [← HQ2.out]; exact HBW2.out.size), HBW2.out.trans (HREL.out.2.2.2.mono (by rw [← HQ2.out]; exact HBW2.out.size))⟩
            clear hm1 hm2
            go_wp2_with fail
            go_ret
            exact HF.out
          | pa :: ra, hm1, HREL, HORD =>
            have HM1 := Lib.hid hm1
            have HM2 := Lib.hid hm2
            have hp1 : 0 < m1 := by rw [← hm1]; simp
            have hpI : (0 : Int) < (m1 : Int) := by omega
            have HHD : Hid (∀ y, ([] : List Pr).head? = some y → ltP y pa = false) := Lib.hid fun y h => by cases h
            clear hm1 hm2
            go_wp2_with fail
            go_quiet (fail)
            have HBW : Hid (Below wr.heap.size wr (wr.drewN nq)) := Lib.hid (lowN (Below.refl _ _) nq)
            obtain ⟨W, hW⟩ : ∃ W, wr.drewN nq = W := ⟨_, rfl⟩
            rw [hW] at HBW
            have HW := Lib.hid hW
            clear hW
            rw [HW.out]
            have hAW := HREL.out.1.keep (W' := W) (fun k hk => HBW.out.block k (Nat.lt_of_lt_of_le hk HQW.out)) (fun _ h => h)
            have hBW := HREL.out.2.1.keep (W' := W) (fun k hk => HBW.out.block k (Nat.lt_of_lt_of_le hk HQW.out)) (fun _ h => h)
            have hOW : OwnP W q (.slice O m3 a3) lo := HREL.out.2.2.1.below HBW.out
            have hQW : Below q W2 W := HREL.out.2.2.2.trans (HBW.out.mono HQW.out)
            have hqW : q ≤ W.heap.size := Nat.le_trans HQW.out HBW.out.size
            obtain ⟨bb, off, rfl, _, hc⟩ := hAW.at (by omega)
            obtain ⟨c0, c1⟩ := hc 0 pa rfl
            rw [Nat.zero_mul, Nat.add_zero] at c0 c1
            dsimp only [pk, pv] at c0 c1
            obtain ⟨O4, c4, W4, R4, hO4, G4, hc4⟩ := hOW.put hqW pa 28 (by rw [HM3.out]; omega)
            obtain ⟨v5, R5, hX5⟩ := run_behind_two (P := Try.prog) (t := 28) elem_pair2 size_pair hAW .i64 (k := 1) (by omega)
            have hln5 : ((pa :: ra).drop 1).length = m1 - 1 := by rw [List.length_drop, HM1.out]
            rw [HM3.out] at R4 hO4 hc4
            obtain ⟨A5, c5, rfl, _⟩ := hX5.form
            rw [hln5] at R5 hX5
            have hG4 : ∀ k, k < q → W4.heap[k]? = W.heap[k]? := fun k hk => G4.block k (by omega) (fun e => by have := (hOW.own e.symm).1; omega)
            have HN4 : Hid (∃ (la lb lo : List Pr), la.length = m1 - 1 ∧ lb.length = 0 ∧ lo.length = m3 + 1 ∧ (OldP q W4 (.slice A5 (m1 - 1) c5) la ∧ OldP q W4 (.slice B 0 a2) lb ∧ OwnP W4 q (.slice O4 (m3 + 1) c4) lo ∧ Below q W2 W4) ∧ Ordered la ∧ Ordered lb ∧ lo ++ ordN (la ++ lb) = ordN l) := Lib.hid
              ⟨ra, [], lo ++ [pa], hln5, HM2.out, by rw [List.length_append, HM3.out]; rfl, ⟨hX5.keep hG4 (fun _ h => h), hBW.keep hG4 (fun _ h => h), hO4, hQW.grown G4 hqW (fun k hk => (hOW.own hk).1)⟩, HORD.out.1.tail, HORD.out.2.1, by
                rw [List.append_assoc, List.singleton_append, ← ordN_head HORD.out.1 HORD.out.2.1 HHD.out]; exact HORD.out.2.2⟩
            have HR4 := Lib.hid R4
            have HR5 := Lib.hid R5
            clear hAW hBW hOW hQW hc R4 hO4 G4 R5 hX5 hG4
            go_wp2_with (first | (at_builtin; refine wpList_append_ran rfl _ _ _ rfl rfl rfl HR4.out ?_) | (refine wpList_cut_ran rfl rfl rfl rfl rfl rfl (HR5.out _) ?_))
            go_roundw
            case rel => exact ⟨m1 - 1, 0, m3 + 1, c5, a2, c4, A5, B, O4, rfl, rfl, rfl, by omega, HN4⟩
            case measure => simp [slN]; omega
        | pb :: rb, hm2, HREL, HORD =>
          have hp2 : 0 < m2 := by rw [← hm2]; simp
          have hpI2 : (0 : Int) < (m2 : Int) := by omega
          have e2 : ((m2 : Int) == 0) = false := by rw [beq_eq_false_iff_ne]; omega
          match la, hm1, HREL, HORD with
          | [], hm1, HREL, HORD =>
            obtain rfl : m1 = 0 := hm1.symm
            have HM1 := Lib.hid hm1
            have HM2 := Lib.hid hm2
            have HHD : Hid (∀ x, ([] : List Pr).head? = some x → ltP pb x = true) := Lib.hid fun y h => by cases h
            clear hm1 hm2
            go_wp2_with fail
            go_quiet (fail)
            have HBW : Hid (Below wr.heap.size wr (wr.drewN nq)) := Lib.hid (lowN (Below.refl _ _) nq)
            obtain ⟨W, hW⟩ : ∃ W, wr.drewN nq = W := ⟨_, rfl⟩
            rw [hW] at HBW
            have HW := Lib.hid hW
            clear hW
            rw [HW.out]
            have hAW := HREL.out.1.keep (W' := W) (fun k hk => HBW.out.block k (Nat.lt_of_lt_of_le hk HQW.out)) (fun _ h => h)
            have hBW := HREL.out.2.1.keep (W' := W) (fun k hk => HBW.out.block k (Nat.lt_of_lt_of_le hk HQW.out)) (fun _ h => h)
            have hOW : OwnP W q (.slice O m3 a3) lo := HREL.out.2.2.1.below HBW.out
            have hQW : Below q W2 W := HREL.out.2.2.2.trans (HBW.out.mono HQW.out)
            have hqW : q ≤ W.heap.size := Nat.le_trans HQW.out HBW.out.size
            obtain ⟨bb, off, rfl, _, hc⟩ := hBW.at (by omega)
            obtain ⟨c0, c1⟩ := hc 0 pb rfl
            rw [Nat.zero_mul, Nat.add_zero] at c0 c1
            dsimp only [pk, pv] at c0 c1
            obtain ⟨O4, c4, W4, R4, hO4, G4, hc4⟩ := hOW.put hqW pb 28 (by rw [HM3.out]; omega)
            obtain ⟨v5, R5, hX5⟩ := run_behind_two (P := Try.prog) (t := 28) elem_pair2 size_pair hBW .i64 (k := 1) (by omega)
            have hln5 : ((pb :: rb).drop 1).length = m2 - 1 := by rw [List.length_drop, HM2.out]
            rw [HM3.out] at R4 hO4 hc4
            obtain ⟨B5, c5, rfl, _⟩ := hX5.form
            rw [hln5] at R5 hX5
            have hG4 : ∀ k, k < q → W4.heap[k]? = W.heap[k]? := fun k hk => G4.block k (by omega) (fun e => by have := (hOW.own e.symm).1; omega)
            have HN4 : Hid (∃ (la lb lo : List Pr), la.length = 0 ∧ lb.length = m2 - 1 ∧ lo.length = m3 + 1 ∧ (OldP q W4 (.slice A 0 a1) la ∧ OldP q W4 (.slice B5 (m2 - 1) c5) lb ∧ OwnP W4 q (.slice O4 (m3 + 1) c4) lo ∧ Below q W2 W4) ∧ Ordered la ∧ Ordered lb ∧ lo ++ ordN (la ++ lb) = ordN l) := Lib.hid
              ⟨[], rb, lo ++ [pb], HM1.out, hln5, by rw [List.length_append, HM3.out]; rfl, ⟨hAW.keep hG4 (fun _ h => h), hX5.keep hG4 (fun _ h => h), hO4, hQW.grown G4 hqW (fun k hk => (hOW.own hk).1)⟩, HORD.out.1, HORD.out.2.1.tail, by
                rw [List.append_assoc, List.singleton_append, ← ordN_head2 HORD.out.1 HORD.out.2.1 HHD.out]; exact HORD.out.2.2⟩
            have HR4 := Lib.hid R4
            have HR5 := Lib.hid R5
            clear hAW hBW hOW hQW hc R4 hO4 G4 R5 hX5 hG4
            go_wp2_with (first | (at_builtin; refine wpList_append_ran rfl _ _ _ rfl rfl rfl HR4.out ?_) | (refine wpList_cut_ran rfl rfl rfl rfl rfl rfl (HR5.out _) ?_))
            go_roundw
            case rel => exact ⟨0, m2 - 1, m3 + 1, a1, c5, c4, A, B5, O4, rfl, rfl, rfl, by omega, HN4⟩
            case measure => simp [slN]; omega
          | pa :: ra, hm1, HREL, HORD =>
            have HM1 := Lib.hid hm1
            have HM2 := Lib.hid hm2
            have hp1 : 0 < m1 := by rw [← hm1]; simp
            have hpI : (0 : Int) < (m1 : Int) := by omega
            have HQR : Hid (∀ w' : World, Below wr.heap.size wr w' → w'.heap.size ≥ wr.heap.size) := Lib.hid fun w' h => h.size
            have CB := fun W => below_calls pb pa W
            obtain ⟨r, hr⟩ : ∃ r, ltP pb pa = r := ⟨_, rfl⟩
            obtain ⟨ab, ao, rfl, hab, hca⟩ := HREL.out.1.at hp1
            obtain ⟨bb, bo, rfl, hbb, hcb⟩ := HREL.out.2.1.at hp2
            obtain ⟨c0, c1⟩ := hca 0 pa rfl
            obtain ⟨d0, d1⟩ := hcb 0 pb rfl
            rw [Nat.zero_mul, Nat.add_zero] at c0 c1 d0 d1
            have HCC : Hid (∀ w' : World, Below wr.heap.size wr w' → w'.cell? ⟨ab, ao, none⟩ = some (.string pa.key) ∧ w'.cell? ⟨ab, ao + 1, none⟩ = some (.int .u32 (pa.val : Nat)) ∧ w'.cell? ⟨bb, bo, none⟩ = some (.string pb.key) ∧ w'.cell? ⟨bb, bo + 1, none⟩ = some (.int .u32 (pb.val : Nat))) := Lib.hid fun w' h =>
              ⟨(h.cell (p := ⟨ab, ao, none⟩) (Nat.lt_of_lt_of_le hab HQW.out)).trans c0, (h.cell (p := ⟨ab, ao + 1, none⟩) (Nat.lt_of_lt_of_le hab HQW.out)).trans c1, (h.cell (p := ⟨bb, bo, none⟩) (Nat.lt_of_lt_of_le hbb HQW.out)).trans d0, (h.cell (p := ⟨bb, bo + 1, none⟩) (Nat.lt_of_lt_of_le hbb HQW.out)).trans d1⟩
            rw [hr] at CB
            have HCB := Lib.hid CB
            have HR := Lib.hid hr
            clear hm1 hm2 hca hcb hr CB c0 c1 d0 d1 HQR hab hbb
            cases r with
            | true =>
              have HHD : Hid (∀ x, (pa :: ra).head? = some x → ltP pb x = true) := Lib.hid fun x h => by
                obtain rfl : pa = x := by simpa using h
                exact HR.out
              go_wp2_with fail
              obtain ⟨k0, k1, k2, k3⟩ := HCC.out wr (Below.refl _ _)
              have hBe : Below wr.heap.size wr ((wr.alloc (prObj pb)).alloc (prObj pa)).drew := (((Below.refl _ wr).alloc (Nat.le_refl _) _).alloc (by simp) _).drew
              go_region_held3 (fun w' => Below wr.heap.size wr w' ∧ w'.cell? ⟨ab, ao, none⟩ = some (.string pa.key) ∧ w'.cell? ⟨ab, ao + 1, none⟩ = some (.int .u32 (pa.val : Nat)) ∧ w'.cell? ⟨bb, bo, none⟩ = some (.string pb.key) ∧ w'.cell? ⟨bb, bo + 1, none⟩ = some (.int .u32 (pb.val : Nat))) (first | exact ⟨(Below.refl _ _).drew, k0, k1, k2, k3⟩ | exact ⟨Below.refl _ _, k0, k1, k2, k3⟩ | assumption | go_keep) (first
                | (go_at_call 26; ((with_reducible refine (HCB.out _).mono ?_)); rintro e W9 ⟨rfl, rfl⟩))
              obtain ⟨W, hW⟩ : ∃ W, ((wr.alloc (prObj pb)).alloc (prObj pa)).drew = W := ⟨_, rfl⟩
              rw [hW] at hBe
              have HBW := Lib.hid hBe
              have HW := Lib.hid hW
              clear hW hBe k0 k1 k2 k3
              rw [HW.out]
              have hAW := HREL.out.1.keep (W' := W) (fun k hk => HBW.out.block k (Nat.lt_of_lt_of_le hk HQW.out)) (fun _ h => h)
              have hBW := HREL.out.2.1.keep (W' := W) (fun k hk => HBW.out.block k (Nat.lt_of_lt_of_le hk HQW.out)) (fun _ h => h)
              have hOW : OwnP W q (.slice O m3 a3) lo := HREL.out.2.2.1.below HBW.out
              have hQW : Below q W2 W := HREL.out.2.2.2.trans (HBW.out.mono HQW.out)
              have hqW : q ≤ W.heap.size := Nat.le_trans HQW.out HBW.out.size
              obtain ⟨b9, o9, he9, _, hc⟩ := hBW.at (by omega)
              simp only [Option.some.injEq, Addr.mk.injEq, and_true] at he9
              obtain ⟨rfl, rfl⟩ := he9
              obtain ⟨c0, c1⟩ := hc 0 pb rfl
              rw [Nat.zero_mul, Nat.add_zero] at c0 c1
              dsimp only [pk, pv] at c0 c1
              obtain ⟨O4, c4, W4, R4, hO4, G4, hc4⟩ := hOW.put hqW pb 28 (by rw [HM3.out]; omega)
              obtain ⟨v5, R5, hX5⟩ := run_behind_two (P := Try.prog) (t := 28) elem_pair2 size_pair hBW .i64 (k := 1) (by omega)
              have hln5 : ((pb :: rb).drop 1).length = m2 - 1 := by rw [List.length_drop, HM2.out]
              rw [HM3.out] at R4 hO4 hc4
              obtain ⟨B5, c5, rfl, _⟩ := hX5.form
              rw [hln5] at R5 hX5
              have hG4 : ∀ k, k < q → W4.heap[k]? = W.heap[k]? := fun k hk => G4.block k (by omega) (fun e => by have := (hOW.own e.symm).1; omega)
              have HN4 : Hid (∃ (la lb lo : List Pr), la.length = m1 ∧ lb.length = m2 - 1 ∧ lo.length = m3 + 1 ∧ (OldP q W4 (.slice (some ⟨ab, ao, none⟩) m1 a1) la ∧ OldP q W4 (.slice B5 (m2 - 1) c5) lb ∧ OwnP W4 q (.slice O4 (m3 + 1) c4) lo ∧ Below q W2 W4) ∧ Ordered la ∧ Ordered lb ∧ lo ++ ordN (la ++ lb) = ordN l) := Lib.hid
                ⟨pa :: ra, rb, lo ++ [pb], HM1.out, hln5, by rw [List.length_append, HM3.out]; rfl, ⟨hAW.keep hG4 (fun _ h => h), hX5.keep hG4 (fun _ h => h), hO4, hQW.grown G4 hqW (fun k hk => (hOW.own hk).1)⟩, HORD.out.1, HORD.out.2.1.tail, by
                  rw [List.append_assoc, List.singleton_append, ← ordN_head2 HORD.out.1 HORD.out.2.1 HHD.out]; exact HORD.out.2.2⟩
              have HR4 := Lib.hid R4
              have HR5 := Lib.hid R5
              clear hAW hBW hOW hQW hc R4 hO4 G4 R5 hX5 hG4
              go_wp2_with (first | (at_builtin; refine wpList_append_ran rfl _ _ _ rfl rfl rfl HR4.out ?_) | (refine wpList_cut_ran rfl rfl rfl rfl rfl rfl (HR5.out _) ?_))
              go_roundw
              case rel => exact ⟨m1, m2 - 1, m3 + 1, a1, c5, c4, some ⟨ab, ao, none⟩, B5, O4, rfl, rfl, rfl, by omega, HN4⟩
              case measure => simp [slN]; omega
            | false =>
              have HHD : Hid (∀ y, (pb :: rb).head? = some y → ltP y pa = false) := Lib.hid fun y h => by
                obtain rfl : pb = y := by simpa using h
                exact HR.out
              go_wp2_with fail
              obtain ⟨k0, k1, k2, k3⟩ := HCC.out wr (Below.refl _ _)
              have hBe : Below wr.heap.size wr ((wr.alloc (prObj pb)).alloc (prObj pa)).drew := (((Below.refl _ wr).alloc (Nat.le_refl _) _).alloc (by simp) _).drew
              go_region_held3 (fun w' => Below wr.heap.size wr w' ∧ w'.cell? ⟨ab, ao, none⟩ = some (.string pa.key) ∧ w'.cell? ⟨ab, ao + 1, none⟩ = some (.int .u32 (pa.val : Nat)) ∧ w'.cell? ⟨bb, bo, none⟩ = some (.string pb.key) ∧ w'.cell? ⟨bb, bo + 1, none⟩ = some (.int .u32 (pb.val : Nat))) (first | exact ⟨(Below.refl _ _).drew, k0, k1, k2, k3⟩ | exact ⟨Below.refl _ _, k0, k1, k2, k3⟩ | assumption | go_keep) (first
                | (go_at_call 26; ((with_reducible refine (HCB.out _).mono ?_)); rintro e W9 ⟨rfl, rfl⟩))
              obtain ⟨W, hW⟩ : ∃ W, ((wr.alloc (prObj pb)).alloc (prObj pa)).drew = W := ⟨_, rfl⟩
              rw [hW] at hBe
              have HBW := Lib.hid hBe
              have HW := Lib.hid hW
              clear hW hBe k0 k1 k2 k3
              rw [HW.out]
              have hAW := HREL.out.1.keep (W' := W) (fun k hk => HBW.out.block k (Nat.lt_of_lt_of_le hk HQW.out)) (fun _ h => h)
              have hBW := HREL.out.2.1.keep (W' := W) (fun k hk => HBW.out.block k (Nat.lt_of_lt_of_le hk HQW.out)) (fun _ h => h)
              have hOW : OwnP W q (.slice O m3 a3) lo := HREL.out.2.2.1.below HBW.out
              have hQW : Below q W2 W := HREL.out.2.2.2.trans (HBW.out.mono HQW.out)
              have hqW : q ≤ W.heap.size := Nat.le_trans HQW.out HBW.out.size
              obtain ⟨b9, o9, he9, _, hc⟩ := hAW.at (by omega)
              simp only [Option.some.injEq, Addr.mk.injEq, and_true] at he9
              obtain ⟨rfl, rfl⟩ := he9
              obtain ⟨c0, c1⟩ := hc 0 pa rfl
              rw [Nat.zero_mul, Nat.add_zero] at c0 c1
              dsimp only [pk, pv] at c0 c1
              obtain ⟨O4, c4, W4, R4, hO4, G4, hc4⟩ := hOW.put hqW pa 28 (by rw [HM3.out]; omega)
              obtain ⟨v5, R5, hX5⟩ := run_behind_two (P := Try.prog) (t := 28) elem_pair2 size_pair hAW .i64 (k := 1) (by omega)
              have hln5 : ((pa :: ra).drop 1).length = m1 - 1 := by rw [List.length_drop, HM1.out]
              rw [HM3.out] at R4 hO4 hc4
              obtain ⟨A5, c5, rfl, _⟩ := hX5.form
              rw [hln5] at R5 hX5
              have hG4 : ∀ k, k < q → W4.heap[k]? = W.heap[k]? := fun k hk => G4.block k (by omega) (fun e => by have := (hOW.own e.symm).1; omega)
              have HN4 : Hid (∃ (la lb lo : List Pr), la.length = m1 - 1 ∧ lb.length = m2 ∧ lo.length = m3 + 1 ∧ (OldP q W4 (.slice A5 (m1 - 1) c5) la ∧ OldP q W4 (.slice (some ⟨bb, bo, none⟩) m2 a2) lb ∧ OwnP W4 q (.slice O4 (m3 + 1) c4) lo ∧ Below q W2 W4) ∧ Ordered la ∧ Ordered lb ∧ lo ++ ordN (la ++ lb) = ordN l) := Lib.hid
                ⟨ra, pb :: rb, lo ++ [pa], hln5, HM2.out, by rw [List.length_append, HM3.out]; rfl, ⟨hX5.keep hG4 (fun _ h => h), hBW.keep hG4 (fun _ h => h), hO4, hQW.grown G4 hqW (fun k hk => (hOW.own hk).1)⟩, HORD.out.1.tail, HORD.out.2.1, by
                  rw [List.append_assoc, List.singleton_append, ← ordN_head HORD.out.1 HORD.out.2.1 HHD.out]; exact HORD.out.2.2⟩
              have HR4 := Lib.hid R4
              have HR5 := Lib.hid R5
              clear hAW hBW hOW hQW hc R4 hO4 G4 R5 hX5 hG4
              go_wp2_with (first | (at_builtin; refine wpList_append_ran rfl _ _ _ rfl rfl rfl HR4.out ?_) | (refine wpList_cut_ran rfl rfl rfl rfl rfl rfl (HR5.out _) ?_))
              go_roundw
              case rel => exact ⟨m1 - 1, m2, m3 + 1, c5, a2, c4, A5, some ⟨bb, bo, none⟩, O4, rfl, rfl, rfl, by omega, HN4⟩
              case measure => simp [slN]; omega

end Go.Proofs.Ytkofipbkfniplaa.Model
