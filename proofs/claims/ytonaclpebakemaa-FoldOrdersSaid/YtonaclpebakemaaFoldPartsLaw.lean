/-
  The walk of the law FoldParts.
-/
import Derived.Test.YtonaclpebakemaaFoldKnown
namespace Go.Proofs.Ytonaclpebakemaa.Fold
open Go Go.RowKit Go.Proofs.Ytonaclpebakemaa.Law

theorem info_u32 : (Try.prog.info? 22).map (fun i => (i.zero, i.size, i.bytes)) = some (some (.int .u32 0), 1, 4) := by kernel_rfl

set_option maxRecDepth 100000 in
set_option maxHeartbeats 2000000 in
theorem foldParts_law (x : Int) (a b : List Nat) (ha : ∀ v ∈ a, v < 4294967296) (hb : ∀ v ∈ b, v < 4294967296) (hla : a.length ≤ 1048576) (hlb : b.length ≤ 1048576) (sa sb : Value) (w : World) (hI : OldU w.heap.size w sa a) (hJ : OldU w.heap.size w sb b) :
    Calls Try.prog 6 #[.int .i64 x, sa, sb] w (RetT true w) := by
  obtain ⟨i0, hi, hz0, hz1, hz2⟩ := info_parts info_u32
  have HI := Lib.hid hI
  have HJ := Lib.hid hJ
  obtain ⟨A1, c1, rfl, _⟩ := hI.form
  obtain ⟨A2, c2, rfl, _⟩ := hJ.form
  have C1 := Lib.hid fun W (h : Below w.heap.size w W) => all_calls x a ha (by unfold maxLen; omega) _ W (HI.out.low h |>.mono fun _ hk => Nat.lt_of_lt_of_le hk h.size)
  have C2 := Lib.hid fun W (h : Below w.heap.size w W) => all_calls x b hb (by unfold maxLen; omega) _ W (HJ.out.low h |>.mono fun _ hk => Nat.lt_of_lt_of_le hk h.size)
  have C3 := Lib.hid fun v W (h : OldU W.heap.size W v (a ++ b)) => all_calls x (a ++ b) (fun v hv => (List.mem_append.1 hv).elim (ha v) (hb v)) (by rw [List.length_append]; unfold maxLen; omega) v W h
  have HL : Hid (a.length + b.length ≤ 2097152) := Lib.hid (by omega)
  obtain ⟨la, hea⟩ : ∃ n, a.length = n := ⟨_, rfl⟩
  obtain ⟨lb, heb⟩ : ∃ n, b.length = n := ⟨_, rfl⟩
  have HA := Lib.hid hea
  have HB := Lib.hid heb
  rw [hea] at C1 HI ⊢
  rw [heb] at C2 HJ ⊢
  obtain ⟨⟨y1, o1⟩, h1⟩ : ∃ r, alN x a = r := ⟨_, rfl⟩
  obtain ⟨⟨y2, o2⟩, h2⟩ : ∃ r, alN x b = r := ⟨_, rfl⟩
  obtain ⟨⟨y3, o3⟩, h3⟩ : ∃ r, alN x (a ++ b) = r := ⟨_, rfl⟩
  have hy1 := alN_lt x a ha
  have hy2 := alN_lt x b hb
  rw [h1] at C1 hy1
  rw [h2] at C2 hy2
  rw [h3] at C3
  simp only at hy1 hy2
  have H1 := Lib.hid h1
  have H2 := Lib.hid h2
  have H3 := Lib.hid h3
  clear hea heb h1 h2 h3 hI hJ ha hb hla hlb
  go_enter Try.func6, Try.ntmps6
  go_wp2_with fail
  refine (known_calls w).mono ?_
  rintro e w1 ⟨rfl, B1⟩
  have HB1 := Lib.hid B1
  clear B1
  go_wp2_with fail
  refine (C1.out _ HB1.out).mono ?_
  rintro e w' ⟨rfl, rfl⟩
  go_wp2_with fail
  refine (C2.out _ HB1.out).mono ?_
  rintro e w' ⟨rfl, rfl⟩
  have hB2 := HB1.out.alloc HB1.out.size (.cells #[] 22)
  have hO := OwnRow.lit (f := u32V) 22 w1 w.heap.size #[] [] 0 HB1.out.size rfl (by decide) rfl
  obtain ⟨v3, w3, R3, O3, G3, _⟩ := run_append_row (P := Try.prog) (w1.alloc (.cells #[] 22)) 30 (fun _ => rfl) Try.underlying30 hi hz0 hz1 hz2 rfl hO (HI.out.low hB2) (by have := HL.out; have := HA.out; simp only [maxLen, List.length_nil]; omega) (by have := HL.out; have := HA.out; simp only [List.length_nil]; omega) hB2.size
  have hB3 : Below w.heap.size w w3 := hB2.grown G3 hB2.size (fun k hk => (hO.own hk).1)
  rw [List.nil_append] at O3
  obtain ⟨v4, w4, R4, O4, G4, _⟩ := run_append_row (P := Try.prog) w3 30 (fun _ => rfl) Try.underlying30 hi hz0 hz1 hz2 rfl O3 (HJ.out.low hB3) (by have := HL.out; have := HA.out; have := HB.out; simp only [maxLen]; omega) (by have := HL.out; have := HA.out; have := HB.out; omega) hB3.size
  have HB4 := Lib.hid (hB3.grown G4 hB3.size (fun k hk => (O3.own hk).1))
  have R3' := Lib.hid R3
  have R4' := Lib.hid R4
  have C3' := Lib.hid (C3.out _ _ O4.old)
  clear R3 R4 O3 O4 G3 G4 hO hB2 hB3 C3 HI HJ C1 C2
  go_wp2_with (first
    | (at_builtin; refine wpList_append_ran rfl _ _ _ rfl rfl rfl R3'.out ?_)
    | (at_builtin; refine wpList_append_ran rfl _ _ _ rfl rfl rfl R4'.out ?_))
  refine C3'.out.mono ?_
  rintro e w' ⟨rfl, rfl⟩
  by_cases hx : isF x = true
  · have hx1 : 0 ≤ x ∧ x < 7 := of_decide_eq_true hx
    obtain ⟨hx2, hx3⟩ := hx1
    have hoj := foO_append x a b
    unfold alN at H1 H2 H3
    rw [hx] at H1 H2 H3
    simp only [if_true] at H1 H2 H3
    match ea : foO x a, eb : foO x b with
    | none, none =>
      rw [ea, eb] at hoj
      rw [ea] at H1
      rw [eb] at H2
      rw [hoj] at H3
      have e1 := H1.out
      have e2 := H2.out
      have e3 := H3.out
      simp only [oj, Prod.mk.injEq] at e1 e2 e3
      obtain ⟨rfl, rfl⟩ := e1
      obtain ⟨rfl, rfl⟩ := e2
      obtain ⟨rfl, rfl⟩ := e3
      clear ea eb hoj hx
      go_wp2_with fail
      go_ret
      exact ⟨rfl, HB4.out⟩
    | none, some y =>
      rw [ea, eb] at hoj
      rw [ea] at H1
      rw [eb] at H2
      rw [hoj] at H3
      have e1 := H1.out
      have e2 := H2.out
      have e3 := H3.out
      simp only [oj, Prod.mk.injEq] at e1 e2 e3
      obtain ⟨rfl, rfl⟩ := e1
      obtain ⟨rfl, rfl⟩ := e2
      obtain ⟨rfl, rfl⟩ := e3
      clear ea eb hoj hx
      go_wp2_with fail
      go_ret
      exact ⟨rfl, HB4.out⟩
    | some y, none =>
      rw [ea, eb] at hoj
      rw [ea] at H1
      rw [eb] at H2
      rw [hoj] at H3
      have e1 := H1.out
      have e2 := H2.out
      have e3 := H3.out
      simp only [oj, Prod.mk.injEq] at e1 e2 e3
      obtain ⟨rfl, rfl⟩ := e1
      obtain ⟨rfl, rfl⟩ := e2
      obtain ⟨rfl, rfl⟩ := e3
      clear ea eb hoj hx
      go_wp2_with fail
      go_ret
      exact ⟨rfl, HB4.out⟩
    | some y, some z =>
      rw [ea, eb] at hoj
      rw [ea] at H1
      rw [eb] at H2
      rw [hoj] at H3
      have e1 := H1.out
      have e2 := H2.out
      have e3 := H3.out
      simp only [oj, Prod.mk.injEq] at e1 e2 e3
      obtain ⟨rfl, rfl⟩ := e1
      obtain ⟨rfl, rfl⟩ := e2
      obtain ⟨rfl, rfl⟩ := e3
      have CJ := Lib.hid (join_calls x y z hy1 hy2 w4)
      clear ea eb hoj hx
      go_wp2_with fail
      refine CJ.out.mono ?_
      rintro e w' ⟨rfl, rfl⟩
      go_wp2_with fail
      go_ret
      exact ⟨rfl, HB4.out⟩
  · have hx1 : x < 0 ∨ 7 ≤ x := by
      have : ¬ (0 ≤ x ∧ x < 7) := fun h => hx (decide_eq_true h)
      omega
    clear hx
    rcases hx1 with h | h
    · go_wp2_with fail
      go_ret
      exact ⟨rfl, HB4.out⟩
    · have h0 : 0 ≤ x := by omega
      go_wp2_with fail
      go_ret
      exact ⟨rfl, HB4.out⟩

end Go.Proofs.Ytonaclpebakemaa.Fold
