/-
  The walk of the law FoldOrders.
-/
import Derived.Test.YtonaclpebakemaaFoldPartsLaw
import Derived.Laws.BitsAllLaws
import Derived.Deep.Cut
import Derived.Test.YtonaclpebakemaaCutRow
namespace Go.Proofs.Ytonaclpebakemaa.Fold
open Go Go.RowKit Go.Proofs.Ytonaclpebakemaa.Law

theorem wrap_u64_nonneg (z : Int) : 0 ≤ IntKind.u64.wrap z := by
  unfold IntKind.wrap; simp [IntKind.signed]; omega
theorem place_u (z : Int) (len : Nat) (h0 : 0 < len) (h1 : len ≤ 140737488351232) : ∃ s : Nat, s < len ∧ wrap64 ((IntKind.u64.wrap z).tmod (len : Int)) = (s : Int) := by
  have h2 : 0 ≤ IntKind.u64.wrap z := wrap_u64_nonneg z
  have h3 : (IntKind.u64.wrap z).tmod (len : Int) = IntKind.u64.wrap z % (len : Int) := Int.tmod_eq_emod_of_nonneg h2
  have h4 : 0 ≤ IntKind.u64.wrap z % (len : Int) := Int.emod_nonneg _ (by omega)
  have h5 : IntKind.u64.wrap z % (len : Int) < (len : Int) := Int.emod_lt_of_pos _ (by omega)
  refine ⟨(IntKind.u64.wrap z % (len : Int)).toNat, by omega, ?_⟩
  rw [h3, IntWalk.wrap64_in _ ⟨by omega, by omega⟩]
  omega
theorem swap_perm {l : List Nat} {i j a b : Nat} (hi : l[i]? = some a) (hj : l[j]? = some b) : ((l.set i b).set j a).Perm l := by
  obtain ⟨h1, e1⟩ := List.getElem?_eq_some_iff.1 hi
  obtain ⟨h2, e2⟩ := List.getElem?_eq_some_iff.1 hj
  have h := Array.swap_perm (xs := l.toArray) (i := i) (j := j) (by simpa using h1) (by simpa using h2)
  have h' := h.toList
  simpa [e1, e2] using h'

theorem elem_u32 : Try.prog.underlying 30 = some (.slice (Try.prog.elem 30)) := by kernel_rfl
theorem size_u32 (w : World) : (sizeOf (Try.prog.elem 30)).run Try.prog w = .ok 1 w := by
  have : Try.prog.elem 30 = 22 := by kernel_rfl
  obtain ⟨i0, hi, _, hz1, _⟩ := info_parts info_u32
  exact size_one (i := i0) (by rw [this]; exact hi) hz1 w

set_option maxRecDepth 100000 in
set_option maxHeartbeats 8000000 in
theorem foldOrders_law (x : Int) (l : List Nat) (hl : ∀ v ∈ l, v < 4294967296) (hll : l.length * 4 ≤ 140737488351232) (sv : Value) (ts : List Int) (hlt : ts.length ≤ maxLen) (tv : Value) (w : World) (hI : OldU w.heap.size w sv l) (hJ : OldR (Value.int .i64) w.heap.size w tv ts) :
    Calls Try.prog 5 #[.int .i64 x, sv, tv] w (RetT true w) := by
  unfold maxLen at hlt
  obtain ⟨i0, hi, hz0, hz1, hz2⟩ := info_parts info_u32
  have HI := Lib.hid hI
  have HJ := Lib.hid hJ
  obtain ⟨A1, c1, rfl, _⟩ := hI.form
  obtain ⟨A2, c2, rfl, _⟩ := hJ.form
  have C1 := Lib.hid fun W (h : Below w.heap.size w W) => all_calls x l hl (by unfold maxLen; omega) _ W (HI.out.low h |>.mono fun _ hk => Nat.lt_of_lt_of_le hk h.size)
  have C3 := Lib.hid fun v W (xs : List Nat) (hp : xs.Perm l) (h : OldU W.heap.size W v xs) => alN_perm x hp ▸ all_calls x xs (fun v hv => hl v (hp.mem_iff.1 hv)) (by rw [hp.length_eq]; unfold maxLen; omega) v W h
  have C4 := Lib.hid fun v W (xs : List Nat) (hp : ∀ z ∈ xs, z ∈ l) (hlen : xs.length ≤ l.length) (h : OldU W.heap.size W v xs) => all_calls x xs (fun v hv => hl v (hp v hv)) (by unfold maxLen; omega) v W h
  obtain ⟨n, hn⟩ : ∃ n, l.length = n := ⟨_, rfl⟩
  obtain ⟨m, hm⟩ : ∃ m, ts.length = m := ⟨_, rfl⟩
  have HN := Lib.hid hn
  have HM := Lib.hid hm
  have HL := Lib.hid hl
  rw [hn] at C1 HI hll ⊢
  rw [hm] at HJ hlt ⊢
  obtain ⟨⟨y1, o1⟩, h1⟩ : ∃ r, alN x l = r := ⟨_, rfl⟩
  have hy1 := alN_lt x l hl
  rw [h1] at C1 hy1
  simp only at hy1
  have H1 := Lib.hid h1
  clear hn hm h1 hI hJ hl
  have hnI : (n : Int) ≤ 140737488351232 := by omega
  go_enter Try.func5, Try.ntmps5
  go_wp2_with fail
  refine (known_calls w).mono ?_
  rintro e w1 ⟨rfl, B1⟩
  have HB1 := Lib.hid B1
  clear B1
  go_wp2_with fail
  refine (C1.out _ HB1.out).mono ?_
  rintro e w' ⟨rfl, rfl⟩
  have hB2 := HB1.out.alloc HB1.out.size (.cells #[] 22)
  have hO := OwnRow.lit (f := u32V) 22 w1 w.heap.size #[] [] 0 HB1.out.size rfl (by decide) rfl
  obtain ⟨v3, w3, R3, O3, G3, _⟩ := run_append_row (P := Try.prog) (w1.alloc (.cells #[] 22)) 30 (fun _ => rfl) Try.underlying30 hi hz0 hz1 hz2 rfl hO (HI.out.low hB2) (by have := HN.out; simp only [maxLen, List.length_nil]; omega) (by have := HN.out; simp only [List.length_nil]; omega) hB2.size
  have HB3 := Lib.hid (hB2.grown G3 hB2.size (fun k hk => (hO.own hk).1))
  rw [List.nil_append] at O3
  obtain ⟨A3, c3, rfl, _⟩ := O3.form
  rw [HN.out] at O3 R3
  have R3' := Lib.hid R3
  have O3' := Lib.hid O3
  clear R3 O3 G3 hO hB2
  go_wp2_with (at_builtin; refine wpList_append_ran rfl _ _ _ rfl rfl rfl R3'.out ?_)
  clear R3' C1
  go_loopw [10] (fun i wr => ∃ (k : Nat) (xs : List Nat), k ≤ m ∧ i = .int .i64 k ∧ xs.Perm l ∧ OwnRow u32V 22 wr w.heap.size (.slice A3 n c3) xs ∧ Below w.heap.size w wr) (fun i _ => m - (intOf i).toNat)
  case atStart => exact ⟨0, l, Nat.zero_le _, rfl, List.Perm.refl _, O3'.out, HB3.out⟩
  case round =>
    obtain ⟨k, xs, hk, rfl, hp, hO, hB⟩ := hrel
    have hxn : xs.length = n := hp.length_eq.trans HN.out
    have HP := Lib.hid hp
    have HO := Lib.hid hO
    have HB := Lib.hid hB
    have HX := Lib.hid hxn
    by_cases hgo : k < m ∧ 0 < n
    · obtain ⟨hkm, hn0⟩ := hgo
      obtain ⟨g, cc, hv, hcap, hg1, hg2⟩ := hO.formP (by omega)
      rw [hxn] at hv hcap
      simp only [Value.slice.injEq] at hv
      obtain ⟨rfl, -, rfl⟩ := hv
      obtain ⟨bt, ot, rfl, hbt, hct⟩ := HJ.out.at (by omega)
      obtain ⟨z, hz⟩ : ∃ z, ts[k]? = some z := ⟨_, List.getElem?_eq_getElem (by rw [HM.out]; exact hkm)⟩
      have ct := (hB.cell (p := ⟨bt, ot + k, none⟩) hbt).trans (hct k z hz)
      obtain ⟨s, hs, hsz⟩ := place_u z n hn0 (by omega)
      obtain ⟨y, hy⟩ : ∃ y, k % n = y := ⟨_, rfl⟩
      have hyn : y < n := by rw [← hy]; exact Nat.mod_lt _ hn0
      have hyI : (k : Int) % (n : Int) = (y : Int) := by omega
      obtain ⟨a, ha⟩ : ∃ a, xs[s]? = some a := ⟨_, List.getElem?_eq_getElem (by omega)⟩
      obtain ⟨b, hb⟩ : ∃ b, xs[y]? = some b := ⟨_, List.getElem?_eq_getElem (by omega)⟩
      have hnz : (n : Int) ≠ 0 := by omega
      have hst := hO.store s b
      have hst2 := hst.1.store y a
      have hpm := (swap_perm ha hb).trans hp
      obtain ⟨ca, fa⟩ := hO.cell ha
      obtain ⟨cb, fb⟩ := hO.cell hb
      obtain ⟨b2, hb2⟩ : ∃ b2, (xs.set s b)[y]? = some b2 := ⟨_, List.getElem?_eq_getElem (by rw [List.length_set]; omega)⟩
      have cb2 : (wr.setCell ⟨g, s, none⟩ (.int .u32 ((b : Nat) : Int))).cell? ⟨g, y, none⟩ = some (.int .u32 ((b2 : Nat) : Int)) := (hst.1.cell hb2).1
      have fb2 : (wr.setCell ⟨g, s, none⟩ (.int .u32 ((b : Nat) : Int))).frozen? ⟨g, y, none⟩ = false := (hst.1.cell hb2).2
      have HSZ := Lib.hid hsz
      have HO2 := Lib.hid hst2.1
      have HP2 := Lib.hid hpm
      have HB2 := Lib.hid ((hB.grown hst.2 hB.size (fun k' hk' => by simp at hk'; omega)).grown hst2.2 (hB.grown hst.2 hB.size (fun k' hk' => by simp at hk'; omega)).size (fun k' hk' => by simp at hk'; omega))
      clear hb2 hst hst2 hpm hO hB hp hct hz ha hb hsz hy hxn
      go_upto_region 9 with fail
      rw [HSZ.out]
      go_wp2_with fail
      go_roundw
      case rel => exact ⟨k + 1, _, by omega, by go_num, HP2.out, HO2.out, HB2.out⟩
      case measure => simp [intOf]; omega
    · have CA := Lib.hid (C3.out _ wr xs hp hO.old)
      rw [H1.out] at CA
      have hcase : m ≤ k ∨ (k < m ∧ n = 0) := by omega
      clear hp hO hB
      cases o1 with
      | false =>
        rcases hcase with h | ⟨h, rfl⟩
        all_goals
          go_wp2_with fail
          refine CA.out.mono ?_
          rintro e w' ⟨rfl, rfl⟩
          go_wp2_with fail
          go_ret
          exact ⟨rfl, HB.out⟩
      | true =>
        have hf : isF x = true ∧ foO x l = some y1 := by
          have h1 := H1.out
          unfold alN at h1
          cases hx : isF x with
          | false => rw [hx] at h1; simp at h1
          | true =>
            rw [hx] at h1
            simp only [if_true] at h1
            match hq : foO x l with
            | none => rw [hq] at h1; simp at h1
            | some q => rw [hq] at h1; simp only [Prod.mk.injEq, and_true] at h1; exact ⟨rfl, by rw [h1]⟩
        have hn0 : 0 < n := by
          rcases Nat.eq_zero_or_pos n with h0 | h0
          · have := HN.out
            rw [h0] at this
            have hl0 := List.eq_nil_of_length_eq_zero this
            rw [hl0] at hf
            exact absurd hf.2 (by simp [foO])
          · exact h0
        obtain ⟨hF, hfo⟩ := hf
        have hmk : m ≤ k := by omega
        clear hcase
        rcases Nat.eq_zero_or_pos m with rfl | hm0
        · clear hfo hF
          go_wp2_with fail
          refine CA.out.mono ?_
          rintro e w' ⟨rfl, rfl⟩
          go_wp2_with fail
          go_ret
          exact ⟨rfl, HB.out⟩
        · have hmz : ((m : Int) == 0) = false := by rw [beq_eq_false_iff_ne]; omega
          obtain ⟨bt, ot, rfl, hbt, hct⟩ := HJ.out.at (by omega)
          obtain ⟨z, hz⟩ : ∃ z, ts[0]? = some z := ⟨_, List.getElem?_eq_getElem (by rw [HM.out]; exact hm0)⟩
          have ct := (HB.out.cell (p := ⟨bt, ot + 0, none⟩) hbt).trans (hct 0 z hz)
          rw [Nat.add_zero] at ct
          obtain ⟨s, hs, hsz⟩ := place_u z (n + 1) (by omega) (by omega)
          rw [Int.natCast_add] at hsz
          have hsz' : wrap64 ((IntKind.u64.wrap z).tmod ((n : Int) + 1)) = (s : Int) := hsz
          have hsn : s ≤ n := by omega
          have hnz : (n : Int) + 1 ≠ 0 := by omega
          have hO := HO.out.old
          obtain ⟨v1, r1, Q1⟩ := run_ahead_row (P := Try.prog) (t := 30) elem_u32 size_u32 hO .i64 hsn
          obtain ⟨v2, r2, Q2⟩ := run_behind_row (P := Try.prog) (t := 30) elem_u32 size_u32 hO .i64 hsn
          have D1 := Lib.hid (C4.out v1 wr (xs.take s) (fun z hz => HP.out.mem_iff.1 (List.mem_of_mem_take hz)) (by rw [HN.out, List.length_take]; omega) Q1)
          have D2 := Lib.hid (C4.out v2 wr (xs.drop s) (fun z hz => HP.out.mem_iff.1 (List.mem_of_mem_drop hz)) (by rw [HN.out, List.length_drop, HX.out]; omega) Q2)
          have hoj : oj x (foO x (xs.take s)) (foO x (xs.drop s)) = some y1 := by
            rw [← foO_append, List.take_append_drop, foO_perm x HP.out]; exact hfo
          unfold alN at D1 D2
          rw [hF] at D1 D2
          simp only [if_true] at D1 D2
          have hb1 : ∀ q, foO x (xs.take s) = some q → q < 4294967296 := fun q hq => foO_lt x _ q (fun v hv => HL.out v (HP.out.mem_iff.1 (List.mem_of_mem_take hv))) hq
          have hb2 : ∀ q, foO x (xs.drop s) = some q → q < 4294967296 := fun q hq => foO_lt x _ q (fun v hv => HL.out v (HP.out.mem_iff.1 (List.mem_of_mem_drop hv))) hq
          have HSZ := Lib.hid hsz'
          have R1 := Lib.hid r1
          have R2 := Lib.hid r2
          clear hsz hsz' r1 r2 Q1 Q2 hO hct hz hfo hF
          match ep : foO x (xs.take s), eq : foO x (xs.drop s) with
          | none, none => rw [ep, eq] at hoj; simp [oj] at hoj
          | none, some q =>
            rw [ep, eq] at hoj
            rw [ep] at D1
            rw [eq] at D2
            simp only [oj, Option.some.injEq] at hoj
            subst hoj
            clear ep eq hb1 hb2
            go_wp2_with fail
            refine CA.out.mono ?_
            rintro e w' ⟨rfl, rfl⟩
            go_upto_region 17 with fail
            rw [HSZ.out]
            go_wp2_with (refine wpList_cut_ran rfl rfl rfl rfl rfl rfl (R1.out _) ?_)
            refine D1.out.mono ?_
            rintro e w' ⟨rfl, rfl⟩
            go_wp2_with (refine wpList_cut_ran rfl rfl rfl rfl rfl rfl (R2.out _) ?_)
            refine D2.out.mono ?_
            rintro e w' ⟨rfl, rfl⟩
            go_wp2_with fail
            go_ret
            exact ⟨rfl, HB.out⟩
          | some p, none =>
            rw [ep, eq] at hoj
            rw [ep] at D1
            rw [eq] at D2
            simp only [oj, Option.some.injEq] at hoj
            subst hoj
            clear ep eq hb1 hb2
            go_wp2_with fail
            refine CA.out.mono ?_
            rintro e w' ⟨rfl, rfl⟩
            go_upto_region 17 with fail
            rw [HSZ.out]
            go_wp2_with (refine wpList_cut_ran rfl rfl rfl rfl rfl rfl (R1.out _) ?_)
            refine D1.out.mono ?_
            rintro e w' ⟨rfl, rfl⟩
            go_wp2_with (refine wpList_cut_ran rfl rfl rfl rfl rfl rfl (R2.out _) ?_)
            refine D2.out.mono ?_
            rintro e w' ⟨rfl, rfl⟩
            go_wp2_with fail
            go_ret
            exact ⟨rfl, HB.out⟩
          | some p, some q =>
            have J1 := join_calls x p q (hb1 p ep) (hb2 q eq) wr
            have J2 := join_calls x q p (hb2 q eq) (hb1 p ep) wr
            rw [jnN_comm x q p] at J2
            rw [ep, eq] at hoj
            rw [ep] at D1
            rw [eq] at D2
            simp only [oj, Option.some.injEq] at hoj
            rw [hoj] at J1 J2
            have HJ1 := Lib.hid J1
            have HJ2 := Lib.hid J2
            clear ep eq hb1 hb2 J1 J2 hoj
            go_wp2_with fail
            refine CA.out.mono ?_
            rintro e w' ⟨rfl, rfl⟩
            go_upto_region 17 with fail
            rw [HSZ.out]
            go_wp2_with (refine wpList_cut_ran rfl rfl rfl rfl rfl rfl (R1.out _) ?_)
            refine D1.out.mono ?_
            rintro e w' ⟨rfl, rfl⟩
            go_wp2_with (refine wpList_cut_ran rfl rfl rfl rfl rfl rfl (R2.out _) ?_)
            refine D2.out.mono ?_
            rintro e w' ⟨rfl, rfl⟩
            go_wp2_with fail
            refine HJ1.out.mono ?_
            rintro e w' ⟨rfl, rfl⟩
            go_wp2_with fail
            refine HJ2.out.mono ?_
            rintro e w' ⟨rfl, rfl⟩
            go_wp2_with fail
            go_ret
            exact ⟨rfl, HB.out⟩

end Go.Proofs.Ytonaclpebakemaa.Fold
