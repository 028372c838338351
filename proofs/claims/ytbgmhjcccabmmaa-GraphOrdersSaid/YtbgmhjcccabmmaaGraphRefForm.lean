/-
  Contracts of the document's zero and form.
-/
import Derived.Test.YtbgmhjcccabmmaaGraphCheck
namespace Go.Proofs.Ytbgmhjcccabmmaa.Graph
open Go Go.RowKit Go.Proofs.Ytbgmhjcccabmmaa.Law

def zeroP (x : Opr) : Prop := x.num = 0 ∧ x.rounds = 0 ∧ x.test = 0 ∧ x.lim = 0

set_option maxRecDepth 100000 in
set_option maxHeartbeats 2000000 in
theorem refZero_calls (x : Opr) (A : Option Addr) (n c : Nat) (g : Bool) (hg : g = true ↔ zeroP x) (w : World) : Calls Try.prog 30 #[opV x (.slice A n c)] w (RetT g w) := by
  obtain ⟨kind, ins, arg, num, rounds, test, lim⟩ := x
  have HG := Lib.hid hg
  unfold zeroP at HG
  simp only at HG
  clear hg
  by_cases hnum : num = 0
  · subst hnum
    by_cases hrounds : rounds = 0
    · subst hrounds
      by_cases htest : test = 0
      · subst htest
        by_cases hlim : lim = 0
        · subst hlim
          obtain rfl := HG.out.2 ⟨rfl, rfl, rfl, rfl⟩
          go_enter Try.func30, Try.ntmps30
          go_wp2_with fail
          go_ret
          exact ⟨rfl, alloc_low _ _⟩
        · obtain rfl := b_false HG.out fun h => hlim h.2.2.2
          have hb : ((lim : Int) == 0) = false := beq_eq_false_iff_ne.2 (by omega)
          go_enter Try.func30, Try.ntmps30
          go_wp2_with fail
          go_ret
          exact ⟨rfl, alloc_low _ _⟩
      · obtain rfl := b_false HG.out fun h => htest h.2.2.1
        have hb : ((test : Int) == 0) = false := beq_eq_false_iff_ne.2 (by omega)
        go_enter Try.func30, Try.ntmps30
        go_wp2_with fail
        go_ret
        exact ⟨rfl, alloc_low _ _⟩
    · obtain rfl := b_false HG.out fun h => hrounds h.2.1
      have hb : ((rounds : Int) == 0) = false := beq_eq_false_iff_ne.2 (by omega)
      go_enter Try.func30, Try.ntmps30
      go_wp2_with fail
      go_ret
      exact ⟨rfl, alloc_low _ _⟩
  · obtain rfl := b_false HG.out fun h => hnum h.1
    have hb : ((num : Int) == 0) = false := beq_eq_false_iff_ne.2 (by omega)
    go_enter Try.func30, Try.ntmps30
    go_wp2_with fail
    go_ret
    exact ⟨rfl, alloc_low _ _⟩

set_option maxRecDepth 100000 in
set_option maxHeartbeats 8000000 in
theorem form_calls (x : Opr) (A : Option Addr) (n c : Nat) (g : Bool) (hg : g = true ↔ formP x) (w : World) : Calls Try.prog 19 #[opV x (.slice A n c)] w (RetT g w) := by
  obtain ⟨kind, ins, arg, num, rounds, test, lim⟩ := x
  obtain ⟨g1, hg1⟩ := exB (zeroP ⟨kind, ins, arg, num, rounds, test, lim⟩)
  obtain ⟨g2, hg2⟩ := exB (zeroP ⟨kind, ins, arg, 0, rounds, test, lim⟩)
  have C1 := Lib.hid (fun w => refZero_calls ⟨kind, ins, arg, num, rounds, test, lim⟩ A n c g1 hg1 w)
  have C2 := Lib.hid (fun w => refZero_calls ⟨kind, ins, arg, 0, rounds, test, lim⟩ A n c g2 hg2 w)
  have HG := Lib.hid hg
  have HG1 := Lib.hid hg1
  have HG2 := Lib.hid hg2
  unfold formP argP takesP loopP at HG
  unfold zeroP at HG1 HG2
  simp only at HG HG1 HG2 C1 C2
  clear hg hg1 hg2
  rcases whichK kind with h | rfl | rfl | rfl | rfl | rfl | rfl | rfl | rfl
  · obtain rfl := b_false HG.out fun h' => by have := h'.1; omega
    have g1 : (kind == 1) = false := by rw [beq_eq_false_iff_ne]; omega
    have g2 : (kind == 2) = false := by rw [beq_eq_false_iff_ne]; omega
    have g3 : (kind == 3) = false := by rw [beq_eq_false_iff_ne]; omega
    have g4 : (kind == 4) = false := by rw [beq_eq_false_iff_ne]; omega
    have g5 : (kind == 5) = false := by rw [beq_eq_false_iff_ne]; omega
    have g6 : (kind == 6) = false := by rw [beq_eq_false_iff_ne]; omega
    have g7 : (kind == 7) = false := by rw [beq_eq_false_iff_ne]; omega
    have g8 : (kind == 8) = false := by rw [beq_eq_false_iff_ne]; omega
    clear h
    go_enter Try.func19, Try.ntmps19
    go_wp2_with fail
    go_ret
    exact ⟨rfl, alloc_low _ _⟩
  · by_cases h1 : -1 ≤ arg
    · by_cases h2 : arg ≤ 7
      · have hgg : g = g1 := by
          refine g_same HG.out ?_
          rw [HG1.out]
          (first | omega | (simp only [true_and]; omega) | (simp; omega))
        subst hgg
        clear HG HG1 HG2
        go_enter Try.func19, Try.ntmps19
        go_wp2_with fail
        refine (C1.out _).mono ?_
        rintro e w' ⟨rfl, hB⟩
        have HB := Lib.hid (low_trans hB)
        clear hB
        go_wp2_with fail
        go_ret
        exact ⟨rfl, HB.out⟩
      · obtain rfl := b_false HG.out fun h => by have := h.1; omega
        have hd : decide (arg ≤ 7) = false := decide_eq_false h2
        clear HG HG1 HG2 C1 C2
        go_enter Try.func19, Try.ntmps19
        go_wp2_with fail
        go_ret
        exact ⟨rfl, alloc_low _ _⟩
    · obtain rfl := b_false HG.out fun h => by have := h.1; omega
      have hd : decide (-1 ≤ arg) = false := decide_eq_false h1
      clear HG HG1 HG2 C1 C2
      go_enter Try.func19, Try.ntmps19
      go_wp2_with fail
      go_ret
      exact ⟨rfl, alloc_low _ _⟩
  · by_cases h1 : 0 ≤ arg
    · by_cases h2 : arg ≤ 5
      · have hgg : g = g2 := by
          refine g_same HG.out ?_
          rw [HG2.out]
          (first | omega | (simp only [true_and]; omega) | (simp; omega))
        subst hgg
        clear HG HG1 HG2
        go_enter Try.func19, Try.ntmps19
        go_wp2_with fail
        refine (C2.out _).mono ?_
        rintro e w' ⟨rfl, hB⟩
        have HB := Lib.hid (low_trans hB)
        clear hB
        go_wp2_with fail
        go_ret
        exact ⟨rfl, HB.out⟩
      · obtain rfl := b_false HG.out fun h => by have := h.1; omega
        have hd : decide (arg ≤ 5) = false := decide_eq_false h2
        clear HG HG1 HG2 C1 C2
        go_enter Try.func19, Try.ntmps19
        go_wp2_with fail
        go_ret
        exact ⟨rfl, alloc_low _ _⟩
    · obtain rfl := b_false HG.out fun h => by have := h.1; omega
      have hd : decide (0 ≤ arg) = false := decide_eq_false h1
      clear HG HG1 HG2 C1 C2
      go_enter Try.func19, Try.ntmps19
      go_wp2_with fail
      go_ret
      exact ⟨rfl, alloc_low _ _⟩
  · by_cases h1 : 0 ≤ arg
    · by_cases h2 : arg ≤ 3
      · have hgg : g = g2 := by
          refine g_same HG.out ?_
          rw [HG2.out]
          (first | omega | (simp only [true_and]; omega) | (simp; omega))
        subst hgg
        clear HG HG1 HG2
        go_enter Try.func19, Try.ntmps19
        go_wp2_with fail
        refine (C2.out _).mono ?_
        rintro e w' ⟨rfl, hB⟩
        have HB := Lib.hid (low_trans hB)
        clear hB
        go_wp2_with fail
        go_ret
        exact ⟨rfl, HB.out⟩
      · obtain rfl := b_false HG.out fun h => by have := h.1; omega
        have hd : decide (arg ≤ 3) = false := decide_eq_false h2
        clear HG HG1 HG2 C1 C2
        go_enter Try.func19, Try.ntmps19
        go_wp2_with fail
        go_ret
        exact ⟨rfl, alloc_low _ _⟩
    · obtain rfl := b_false HG.out fun h => by have := h.1; omega
      have hd : decide (0 ≤ arg) = false := decide_eq_false h1
      clear HG HG1 HG2 C1 C2
      go_enter Try.func19, Try.ntmps19
      go_wp2_with fail
      go_ret
      exact ⟨rfl, alloc_low _ _⟩
  · by_cases h1 : 0 ≤ arg
    · by_cases h2 : arg ≤ 6
      · have hgg : g = g1 := by
          refine g_same HG.out ?_
          rw [HG1.out]
          (first | omega | (simp only [true_and]; omega) | (simp; omega))
        subst hgg
        clear HG HG1 HG2
        go_enter Try.func19, Try.ntmps19
        go_wp2_with fail
        refine (C1.out _).mono ?_
        rintro e w' ⟨rfl, hB⟩
        have HB := Lib.hid (low_trans hB)
        clear hB
        go_wp2_with fail
        go_ret
        exact ⟨rfl, HB.out⟩
      · obtain rfl := b_false HG.out fun h => by have := h.1; omega
        have hd : decide (arg ≤ 6) = false := decide_eq_false h2
        clear HG HG1 HG2 C1 C2
        go_enter Try.func19, Try.ntmps19
        go_wp2_with fail
        go_ret
        exact ⟨rfl, alloc_low _ _⟩
    · obtain rfl := b_false HG.out fun h => by have := h.1; omega
      have hd : decide (0 ≤ arg) = false := decide_eq_false h1
      clear HG HG1 HG2 C1 C2
      go_enter Try.func19, Try.ntmps19
      go_wp2_with fail
      go_ret
      exact ⟨rfl, alloc_low _ _⟩
  · by_cases h1 : 0 ≤ arg
    · by_cases h2 : arg ≤ 6
      · have hgg : g = g1 := by
          refine g_same HG.out ?_
          rw [HG1.out]
          (first | omega | (simp only [true_and]; omega) | (simp; omega))
        subst hgg
        clear HG HG1 HG2
        go_enter Try.func19, Try.ntmps19
        go_wp2_with fail
        refine (C1.out _).mono ?_
        rintro e w' ⟨rfl, hB⟩
        have HB := Lib.hid (low_trans hB)
        clear hB
        go_wp2_with fail
        go_ret
        exact ⟨rfl, HB.out⟩
      · obtain rfl := b_false HG.out fun h => by have := h.1; omega
        have hd : decide (arg ≤ 6) = false := decide_eq_false h2
        clear HG HG1 HG2 C1 C2
        go_enter Try.func19, Try.ntmps19
        go_wp2_with fail
        go_ret
        exact ⟨rfl, alloc_low _ _⟩
    · obtain rfl := b_false HG.out fun h => by have := h.1; omega
      have hd : decide (0 ≤ arg) = false := decide_eq_false h1
      clear HG HG1 HG2 C1 C2
      go_enter Try.func19, Try.ntmps19
      go_wp2_with fail
      go_ret
      exact ⟨rfl, alloc_low _ _⟩
  · by_cases h1 : arg = 0
    · subst h1
      have hgg : g = g1 := by
        refine g_same HG.out ?_
        rw [HG1.out]
        omega
      subst hgg
      clear HG HG1 HG2
      go_enter Try.func19, Try.ntmps19
      go_wp2_with fail
      refine (C1.out _).mono ?_
      rintro e w' ⟨rfl, hB⟩
      have HB := Lib.hid (low_trans hB)
      clear hB
      go_wp2_with fail
      go_ret
      exact ⟨rfl, HB.out⟩
    · obtain rfl := b_false HG.out fun h => by have := h.1; omega
      have hd : (arg == 0) = false := beq_eq_false_iff_ne.2 h1
      clear HG HG1 HG2 C1 C2
      go_enter Try.func19, Try.ntmps19
      go_wp2_with fail
      go_ret
      exact ⟨rfl, alloc_low _ _⟩
  · by_cases q0 : 0 ≤ arg
    · by_cases q1 : arg ≤ 5
      · by_cases q2 : 1 ≤ rounds
        · by_cases q3 : rounds ≤ 16
          · by_cases q4 : 0 ≤ test
            · by_cases q5 : test ≤ 3
              · obtain rfl := HG.out.2 (by omega)
                clear HG HG1 HG2 C1 C2
                go_enter Try.func19, Try.ntmps19
                go_wp2_with fail
                go_ret
                exact ⟨rfl, alloc_low _ _⟩
              · obtain rfl := b_false HG.out fun h => by have := h.1; have := h.2.2; omega
                have hd : decide (test ≤ 3) = false := decide_eq_false q5
                clear HG HG1 HG2 C1 C2
                go_enter Try.func19, Try.ntmps19
                go_wp2_with fail
                go_ret
                exact ⟨rfl, alloc_low _ _⟩
            · obtain rfl := b_false HG.out fun h => by have := h.1; have := h.2.2; omega
              have hd : decide (0 ≤ test) = false := decide_eq_false q4
              clear HG HG1 HG2 C1 C2
              go_enter Try.func19, Try.ntmps19
              go_wp2_with fail
              go_ret
              exact ⟨rfl, alloc_low _ _⟩
          · obtain rfl := b_false HG.out fun h => by have := h.1; have := h.2.2; omega
            have hd : decide (rounds ≤ 16) = false := decide_eq_false q3
            clear HG HG1 HG2 C1 C2
            go_enter Try.func19, Try.ntmps19
            go_wp2_with fail
            go_ret
            exact ⟨rfl, alloc_low _ _⟩
        · obtain rfl := b_false HG.out fun h => by have := h.1; have := h.2.2; omega
          have hd : decide (1 ≤ rounds) = false := decide_eq_false q2
          clear HG HG1 HG2 C1 C2
          go_enter Try.func19, Try.ntmps19
          go_wp2_with fail
          go_ret
          exact ⟨rfl, alloc_low _ _⟩
      · obtain rfl := b_false HG.out fun h => by have := h.1; have := h.2.2; omega
        have hd : decide (arg ≤ 5) = false := decide_eq_false q1
        clear HG HG1 HG2 C1 C2
        go_enter Try.func19, Try.ntmps19
        go_wp2_with fail
        go_ret
        exact ⟨rfl, alloc_low _ _⟩
    · obtain rfl := b_false HG.out fun h => by have := h.1; have := h.2.2; omega
      have hd : decide (0 ≤ arg) = false := decide_eq_false q0
      clear HG HG1 HG2 C1 C2
      go_enter Try.func19, Try.ntmps19
      go_wp2_with fail
      go_ret
      exact ⟨rfl, alloc_low _ _⟩
  · by_cases h1 : arg = 0
    · subst h1
      have hgg : g = g1 := by
        refine g_same HG.out ?_
        rw [HG1.out]
        omega
      subst hgg
      clear HG HG1 HG2
      go_enter Try.func19, Try.ntmps19
      go_wp2_with fail
      refine (C1.out _).mono ?_
      rintro e w' ⟨rfl, hB⟩
      have HB := Lib.hid (low_trans hB)
      clear hB
      go_wp2_with fail
      go_ret
      exact ⟨rfl, HB.out⟩
    · obtain rfl := b_false HG.out fun h => by have := h.1; omega
      have hd : (arg == 0) = false := beq_eq_false_iff_ne.2 h1
      clear HG HG1 HG2 C1 C2
      go_enter Try.func19, Try.ntmps19
      go_wp2_with fail
      go_ret
      exact ⟨rfl, alloc_low _ _⟩

end Go.Proofs.Ytbgmhjcccabmmaa.Graph
