/-
  Contracts of graph's small functions and of the document's: numbers, kinds, what an operator has.
-/
import Derived.Test.YtmfndimejnbgkaaGraphAt
namespace Go.Proofs.Ytmfndimejnbgkaa.Graph
open Go Go.RowKit Go.Proofs.Ytmfndimejnbgkaa.Law

theorem alloc_low (w : World) (o : Obj) : Below w.heap.size w (w.alloc o) := (Below.refl _ _).alloc (Nat.le_refl _) o
theorem g_same {g g' : Bool} {p : Prop} (h : g = true ↔ p) (h' : g' = true ↔ p) : g = g' := by
  cases g <;> cases g' <;> simp_all
theorem g_true {g : Bool} {p : Prop} (h : g = true ↔ p) (hp : p) : g = true := h.2 hp

set_option maxHeartbeats 400000 in
theorem isNumber_calls (n m : Int) (g : Bool) (hg : g = true ↔ (0 ≤ n ∧ n < m)) (w : World) : Calls Try.prog 104 #[.int .i64 n, .int .i64 m] w (RetBo g w) := by
  have HG := Lib.hid hg
  clear hg
  by_cases h1 : 0 ≤ n
  · by_cases h2 : n < m
    · obtain rfl := HG.out.2 ⟨h1, h2⟩
      go_enter Try.func104, Try.ntmps104
      go_wp2_with fail
      go_ret
      exact ⟨rfl, rfl⟩
    · obtain rfl := b_false HG.out fun h => h2 h.2
      have hd : decide (n < m) = false := decide_eq_false h2
      go_enter Try.func104, Try.ntmps104
      go_wp2_with fail
      go_ret
      exact ⟨rfl, rfl⟩
  · obtain rfl := b_false HG.out fun h => h1 h.1
    have hd : decide (0 ≤ n) = false := decide_eq_false h1
    go_enter Try.func104, Try.ntmps104
    go_wp2_with fail
    go_ret
    exact ⟨rfl, rfl⟩

set_option maxHeartbeats 400000 in
theorem inputs_calls (k : Int) (w : World) : Calls Try.prog 105 #[.int .i64 k] w (fun e w' => e = .returned (.int .i64 (wantN k)) ∧ w = w') := by
  unfold wantN
  by_cases h1 : k = 1
  · subst h1
    go_enter Try.func105, Try.ntmps105
    go_wp2_with fail
    go_ret
    exact ⟨rfl, rfl⟩
  · rw [if_neg h1]
    have g1 : (k == 1) = false := beq_eq_false_iff_ne.2 h1
    clear h1
    by_cases h2 : k = 5
    · subst h2
      go_enter Try.func105, Try.ntmps105
      go_wp2_with fail
      go_ret
      exact ⟨rfl, rfl⟩
    · have g2 : (k == 5) = false := beq_eq_false_iff_ne.2 h2
      by_cases h3 : k = 6
      · subst h3
        go_enter Try.func105, Try.ntmps105
        go_wp2_with fail
        go_ret
        exact ⟨rfl, rfl⟩
      · rw [if_neg (by omega)]
        have g3 : (k == 6) = false := beq_eq_false_iff_ne.2 h3
        clear h2 h3
        go_enter Try.func105, Try.ntmps105
        go_wp2_with fail
        go_ret
        exact ⟨rfl, rfl⟩

set_option maxHeartbeats 400000 in
theorem refWant_calls (k : Int) (w : World) : Calls Try.prog 90 #[.int .i64 k] w (fun e w' => e = .returned (.int .i64 (wantN k)) ∧ w = w') := by
  unfold wantN
  by_cases h1 : k = 1
  · subst h1
    go_enter Try.func90, Try.ntmps90
    go_wp2_with fail
    go_ret
    exact ⟨rfl, rfl⟩
  · rw [if_neg h1]
    have g1 : (k == 1) = false := beq_eq_false_iff_ne.2 h1
    clear h1
    by_cases h2 : k = 5
    · subst h2
      go_enter Try.func90, Try.ntmps90
      go_wp2_with fail
      go_ret
      exact ⟨rfl, rfl⟩
    · have g2 : (k == 5) = false := beq_eq_false_iff_ne.2 h2
      by_cases h3 : k = 6
      · subst h3
        go_enter Try.func90, Try.ntmps90
        go_wp2_with fail
        go_ret
        exact ⟨rfl, rfl⟩
      · rw [if_neg (by omega)]
        have g3 : (k == 6) = false := beq_eq_false_iff_ne.2 h3
        clear h2 h3
        go_enter Try.func90, Try.ntmps90
        go_wp2_with fail
        go_ret
        exact ⟨rfl, rfl⟩

set_option maxHeartbeats 400000 in
theorem takesNum_calls (k : Int) (g : Bool) (hg : g = true ↔ takesP k) (w : World) : Calls Try.prog 108 #[.int .i64 k] w (RetBo g w) := by
  have HG := Lib.hid hg
  clear hg
  by_cases h1 : k = 2
  · subst h1
    obtain rfl := HG.out.2 (.inl rfl)
    go_enter Try.func108, Try.ntmps108
    go_wp2_with fail
    go_ret
    exact ⟨rfl, rfl⟩
  · have g1 : (k == 2) = false := beq_eq_false_iff_ne.2 h1
    by_cases h2 : k = 3
    · subst h2
      obtain rfl := HG.out.2 (.inr (.inl rfl))
      go_enter Try.func108, Try.ntmps108
      go_wp2_with fail
      go_ret
      exact ⟨rfl, rfl⟩
    · have g2 : (k == 3) = false := beq_eq_false_iff_ne.2 h2
      by_cases h3 : k = 7
      · subst h3
        obtain rfl := HG.out.2 (.inr (.inr rfl))
        go_enter Try.func108, Try.ntmps108
        go_wp2_with fail
        go_ret
        exact ⟨rfl, rfl⟩
      · obtain rfl := b_false HG.out fun h => by rcases h with h | h | h <;> contradiction
        have g3 : (k == 7) = false := beq_eq_false_iff_ne.2 h3
        clear h1 h2 h3
        go_enter Try.func108, Try.ntmps108
        go_wp2_with fail
        go_ret
        exact ⟨rfl, rfl⟩

set_option maxRecDepth 100000 in
set_option maxHeartbeats 2000000 in
theorem rightLoop_calls (x : Opr) (A : Option Addr) (n c : Nat) (g : Bool) (hg : g = true ↔ loopP x) (w : World) : Calls Try.prog 109 #[opV x (.slice A n c)] w (RetT g w) := by
  obtain ⟨kind, ins, arg, num, rounds, test, lim⟩ := x
  have HG := Lib.hid hg
  unfold loopP at HG
  simp only at HG
  clear hg
  by_cases h1 : kind = 7
  · subst h1
    by_cases h2 : 1 ≤ rounds
    · by_cases h3 : rounds ≤ 16
      · have hg1 : g = true ↔ (0 ≤ test ∧ test < 4) := by
          rw [HG.out]
          exact ⟨fun h => by rcases h with h | h; exact absurd rfl h.1; exact ⟨h.2.2.2.1, h.2.2.2.2⟩, fun h => .inr ⟨rfl, h2, h3, h.1, h.2⟩⟩
        have C1 := Lib.hid (isNumber_calls test 4 g hg1)
        clear hg1 HG
        go_enter Try.func109, Try.ntmps109
        go_wp2_with fail
        refine (C1.out _).mono ?_
        rintro e w' ⟨rfl, rfl⟩
        go_wp2_with fail
        go_ret
        exact ⟨rfl, alloc_low _ _⟩
      · obtain rfl := b_false HG.out fun h => by rcases h with h | h; exact absurd rfl h.1; exact h3 h.2.2.1
        have hd : decide (rounds ≤ 16) = false := decide_eq_false h3
        go_enter Try.func109, Try.ntmps109
        go_wp2_with fail
        go_ret
        exact ⟨rfl, alloc_low _ _⟩
    · obtain rfl := b_false HG.out fun h => by rcases h with h | h; exact absurd rfl h.1; exact h2 h.2.1
      have hd : decide (1 ≤ rounds) = false := decide_eq_false h2
      go_enter Try.func109, Try.ntmps109
      go_wp2_with fail
      go_ret
      exact ⟨rfl, alloc_low _ _⟩
  · have g7 : (kind != 7) = true := bne_iff_ne.2 h1
    by_cases h2 : rounds = 0
    · subst h2
      by_cases h3 : test = 0
      · subst h3
        by_cases h4 : lim = 0
        · subst h4
          obtain rfl := HG.out.2 (.inl ⟨h1, rfl, rfl, rfl⟩)
          go_enter Try.func109, Try.ntmps109
          go_wp2_with fail
          go_ret
          exact ⟨rfl, alloc_low _ _⟩
        · obtain rfl := b_false HG.out fun h => by rcases h with h | h; exact h4 h.2.2.2; exact h1 h.1
          have hb : ((lim : Int) == 0) = false := beq_eq_false_iff_ne.2 (by omega)
          go_enter Try.func109, Try.ntmps109
          go_wp2_with fail
          go_ret
          exact ⟨rfl, alloc_low _ _⟩
      · obtain rfl := b_false HG.out fun h => by rcases h with h | h; exact h3 h.2.2.1; exact h1 h.1
        have hb : (test == 0) = false := beq_eq_false_iff_ne.2 h3
        go_enter Try.func109, Try.ntmps109
        go_wp2_with fail
        go_ret
        exact ⟨rfl, alloc_low _ _⟩
    · obtain rfl := b_false HG.out fun h => by rcases h with h | h; exact h2 h.2.1; exact h1 h.1
      have hb : (rounds == 0) = false := beq_eq_false_iff_ne.2 h2
      go_enter Try.func109, Try.ntmps109
      go_wp2_with fail
      go_ret
      exact ⟨rfl, alloc_low _ _⟩

theorem whichK (x : Int) : (x < 1 ∨ 8 < x) ∨ x = 1 ∨ x = 2 ∨ x = 3 ∨ x = 4 ∨ x = 5 ∨ x = 6 ∨ x = 7 ∨ x = 8 := by omega

set_option maxRecDepth 100000 in
set_option maxHeartbeats 4000000 in
theorem rightArg_calls (x : Opr) (A : Option Addr) (n c : Nat) (g : Bool) (hg : g = true ↔ argP x) (w : World) : Calls Try.prog 107 #[opV x (.slice A n c)] w (RetT g w) := by
  obtain ⟨kind, ins, arg, num, rounds, test, lim⟩ := x
  have HG := Lib.hid hg
  unfold argP at HG
  simp only at HG
  clear hg
  rcases whichK kind with h | rfl | rfl | rfl | rfl | rfl | rfl | rfl | rfl
  · obtain rfl := b_false HG.out fun h' => by omega
    have g1 : (kind == 1) = false := by rw [beq_eq_false_iff_ne]; omega
    have g2 : (kind == 2) = false := by rw [beq_eq_false_iff_ne]; omega
    have g3 : (kind == 3) = false := by rw [beq_eq_false_iff_ne]; omega
    have g4 : (kind == 4) = false := by rw [beq_eq_false_iff_ne]; omega
    have g5 : (kind == 5) = false := by rw [beq_eq_false_iff_ne]; omega
    have g6 : (kind == 6) = false := by rw [beq_eq_false_iff_ne]; omega
    have g7 : (kind == 7) = false := by rw [beq_eq_false_iff_ne]; omega
    have g8 : (kind == 8) = false := by rw [beq_eq_false_iff_ne]; omega
    clear h
    go_enter Try.func107, Try.ntmps107
    go_wp2_with fail
    go_ret
    exact ⟨rfl, alloc_low _ _⟩
  · by_cases h2 : arg = -1
    · subst h2
      obtain rfl := HG.out.2 (.inl ⟨rfl, by omega, by omega⟩)
      go_enter Try.func107, Try.ntmps107
      go_wp2_with fail
      go_ret
      exact ⟨rfl, alloc_low _ _⟩
    · have hb : (arg == -1) = false := beq_eq_false_iff_ne.2 h2
      have hg1 : g = true ↔ (0 ≤ arg ∧ arg < 8) := by rw [HG.out]; omega
      have C1 := Lib.hid (isNumber_calls arg 8 g hg1)
      clear hg1 HG h2
      go_enter Try.func107, Try.ntmps107
      go_wp2_with fail
      refine (C1.out _).mono ?_
      rintro e w' ⟨rfl, rfl⟩
      go_wp2_with fail
      go_ret
      exact ⟨rfl, alloc_low _ _⟩
  · have hg1 : g = true ↔ (0 ≤ arg ∧ arg < 6) := by rw [HG.out]; omega
    have C1 := Lib.hid (isNumber_calls arg 6 g hg1)
    clear hg1 HG
    go_enter Try.func107, Try.ntmps107
    go_wp2_with fail
    refine (C1.out _).mono ?_
    rintro e w' ⟨rfl, rfl⟩
    go_wp2_with fail
    go_ret
    exact ⟨rfl, alloc_low _ _⟩
  · have hg1 : g = true ↔ (0 ≤ arg ∧ arg < 4) := by rw [HG.out]; omega
    have C1 := Lib.hid (isNumber_calls arg 4 g hg1)
    clear hg1 HG
    go_enter Try.func107, Try.ntmps107
    go_wp2_with fail
    refine (C1.out _).mono ?_
    rintro e w' ⟨rfl, rfl⟩
    go_wp2_with fail
    go_ret
    exact ⟨rfl, alloc_low _ _⟩
  · have hg1 : g = true ↔ (0 ≤ arg ∧ arg < 7) := by rw [HG.out]; omega
    have C1 := Lib.hid (isNumber_calls arg 7 g hg1)
    clear hg1 HG
    go_enter Try.func107, Try.ntmps107
    go_wp2_with fail
    refine (C1.out _).mono ?_
    rintro e w' ⟨rfl, rfl⟩
    go_wp2_with fail
    go_ret
    exact ⟨rfl, alloc_low _ _⟩
  · have hg1 : g = true ↔ (0 ≤ arg ∧ arg < 7) := by rw [HG.out]; omega
    have C1 := Lib.hid (isNumber_calls arg 7 g hg1)
    clear hg1 HG
    go_enter Try.func107, Try.ntmps107
    go_wp2_with fail
    refine (C1.out _).mono ?_
    rintro e w' ⟨rfl, rfl⟩
    go_wp2_with fail
    go_ret
    exact ⟨rfl, alloc_low _ _⟩
  · by_cases h2 : arg = 0
    · subst h2
      obtain rfl := HG.out.2 (by omega)
      go_enter Try.func107, Try.ntmps107
      go_wp2_with fail
      go_ret
      exact ⟨rfl, alloc_low _ _⟩
    · obtain rfl := b_false HG.out fun h => by omega
      have hb : (arg == 0) = false := beq_eq_false_iff_ne.2 h2
      go_enter Try.func107, Try.ntmps107
      go_wp2_with fail
      go_ret
      exact ⟨rfl, alloc_low _ _⟩
  · have hg1 : g = true ↔ (0 ≤ arg ∧ arg < 6) := by rw [HG.out]; omega
    have C1 := Lib.hid (isNumber_calls arg 6 g hg1)
    clear hg1 HG
    go_enter Try.func107, Try.ntmps107
    go_wp2_with fail
    refine (C1.out _).mono ?_
    rintro e w' ⟨rfl, rfl⟩
    go_wp2_with fail
    go_ret
    exact ⟨rfl, alloc_low _ _⟩
  · by_cases h2 : arg = 0
    · subst h2
      obtain rfl := HG.out.2 (by omega)
      go_enter Try.func107, Try.ntmps107
      go_wp2_with fail
      go_ret
      exact ⟨rfl, alloc_low _ _⟩
    · obtain rfl := b_false HG.out fun h => by omega
      have hb : (arg == 0) = false := beq_eq_false_iff_ne.2 h2
      go_enter Try.func107, Try.ntmps107
      go_wp2_with fail
      go_ret
      exact ⟨rfl, alloc_low _ _⟩

/-- The next call: its contract, and what lies goes on. -/
theorem low_trans {w : World} {o : Obj} {W : World} (h : Below (w.alloc o).heap.size (w.alloc o) W) : Below w.heap.size w W := (alloc_low w o).trans (h.mono (by simp))

set_option maxRecDepth 100000 in
set_option maxHeartbeats 4000000 in
theorem rightNumbers_calls (x : Opr) (A : Option Addr) (n c : Nat) (g : Bool) (hg : g = true ↔ formP x) (w : World) : Calls Try.prog 61 #[opV x (.slice A n c)] w (RetT g w) := by
  obtain ⟨g1, hg1⟩ := exB (argP x)
  obtain ⟨g2, hg2⟩ := exB (takesP x.kind)
  obtain ⟨g3, hg3⟩ := exB (loopP x)
  have C1 := Lib.hid (fun w => rightArg_calls x A n c g1 hg1 w)
  have C2 := Lib.hid (fun w => takesNum_calls x.kind g2 hg2 w)
  have C3 := Lib.hid (fun w => rightLoop_calls x A n c g3 hg3 w)
  obtain ⟨nz, hnz⟩ : ∃ b : Bool, b = ((x.num : Int) == 0) := ⟨_, rfl⟩
  have hgg : g = (g1 && (nz || g2) && g3) := by
    have hn : nz = true ↔ x.num = 0 := by rw [hnz, beq_iff_eq]; omega
    refine g_same hg ?_
    simp only [Bool.and_eq_true, Bool.or_eq_true, hg1, hg2, hg3, hn, formP]
    exact and_assoc
  subst hgg
  clear hg hg1 hg2 hg3
  obtain ⟨kind, ins, arg, num, rounds, test, lim⟩ := x
  simp only at hnz C2
  have hnz' := hnz.symm
  clear hnz
  have HS : Hid (w.heap.size < (w.alloc (.cells #[.int .i64 kind, .slice A n c, .int .i64 arg, .int .u32 (num : Nat), .int .i64 rounds, .int .i64 test, .int .u32 (lim : Nat)] 27)).heap.size) := Lib.hid (by simp)
  have hbox := heap_alloc_new w (.cells #[.int .i64 kind, .slice A n c, .int .i64 arg, .int .u32 (num : Nat), .int .i64 rounds, .int .i64 test, .int .u32 (lim : Nat)] 27)
  have HBOX := Lib.hid hbox
  clear hbox
  go_enter Try.func61, Try.ntmps61
  go_wp2_with fail
  refine (C1.out _).mono ?_
  rintro e w1 ⟨rfl, B1⟩
  have hbx := (B1.block w.heap.size (by simp)).trans HBOX.out
  have hbl := low_trans B1
  obtain ⟨⟨c0, c1, c2, c3, c4, c5, c6⟩, -⟩ := box7 hbx
  have HBX := Lib.hid hbx
  have HBL := Lib.hid hbl
  clear B1 hbl hbx
  cases g1 with
  | false =>
    go_wp2_with fail
    go_ret
    exact ⟨rfl, HBL.out⟩
  | true =>
    cases nz with
    | true =>
      go_wp2_with fail
      refine (C3.out _).mono ?_
      rintro e w3 ⟨rfl, B3⟩
      have HB3 := Lib.hid (HBL.out.trans (B3.mono HBL.out.size))
      clear B3
      go_wp2_with fail
      go_ret
      exact ⟨rfl, HB3.out⟩
    | false =>
      go_wp2_with fail
      refine (C2.out _).mono ?_
      rintro e w' ⟨rfl, rfl⟩
      cases g2 with
      | false =>
        go_wp2_with fail
        go_ret
        exact ⟨rfl, HBL.out⟩
      | true =>
        go_wp2_with fail
        refine (C3.out _).mono ?_
        rintro e w3 ⟨rfl, B3⟩
        have HB3 := Lib.hid (HBL.out.trans (B3.mono HBL.out.size))
        clear B3
        go_wp2_with fail
        go_ret
        exact ⟨rfl, HB3.out⟩

end Go.Proofs.Ytmfndimejnbgkaa.Graph
