/-
  Contract of the document's Check.
-/
import Derived.Test.YtbgmhjcccabmmaaGraphRefForm
import Derived.Lib.QuietBelow
namespace Go.Proofs.Ytbgmhjcccabmmaa.Graph
open Go Go.RowKit Go.Sort Go.Proofs.Ytbgmhjcccabmmaa.Law

theorem same_of_pure {P : Program} {f : FuncId} {args : Array Value} {w : World} {d : Nat} {os : Array Obj} {v : Value}
    (h : Calls P f args (grow (redrawn w d) os) fun e w' => e = .returned v ∧ grow (redrawn w d) os = w') : Calls P f args (grow (redrawn w d) os) fun e w'' => e = .returned v ∧ ∃ p : Regrown, w'' = grow (redrawn w p.d) p.os :=
  Calls.regrown_of (h.mono fun _ _ ⟨he, hw⟩ => ⟨he, hw ▸ Below.refl _ _⟩)

/-- All inputs ahead of the j-th are numbers ahead of k. -/
def aheadP (ins : List Int) (j : Nat) (k : Int) : Prop := ∀ i y, ins[i]? = some y → i < j → 0 ≤ y ∧ y < k
theorem aheadP.zero (ins : List Int) (k : Int) : aheadP ins 0 k := fun _ _ _ h => absurd h (Nat.not_lt_zero _)
theorem aheadP.succ {ins : List Int} {j : Nat} {k y : Int} (hy : ins[j]? = some y) : aheadP ins (j + 1) k ↔ aheadP ins j k ∧ 0 ≤ y ∧ y < k := by
  constructor
  · intro h
    exact ⟨fun i z hz hi => h i z hz (by omega), h j y hy (by omega)⟩
  · rintro ⟨h, h2⟩ i z hz hi
    by_cases hij : i = j
    · subst hij
      obtain rfl := Option.some.inj (hz.symm.trans hy)
      exact h2
    · exact h i z hz (by omega)
theorem aheadP.all {ins : List Int} {k : Int} : aheadP ins ins.length k ↔ ∀ y ∈ ins, 0 ≤ y ∧ y < k := by
  constructor
  · intro h y hy
    obtain ⟨i, hi⟩ := List.getElem?_of_mem hy
    exact h i y hi (List.getElem?_eq_some_iff.1 hi).1
  · intro h i y hy _
    exact h y (List.mem_of_getElem? hy)

/-- Both. -/
def qP (q : Bool) (p : Prop) : Prop := q = true ∧ p
/-- A Bool tells whether. -/
def Tells (r : Bool) (p : Prop) : Prop := r = true ↔ p
theorem Tells.no {p : Prop} (h : ¬ p) : Tells false p := ⟨fun h' => (by cases h'), fun h' => absurd h' h⟩
theorem Tells.yes {p : Prop} (h : p) : Tells true p := ⟨fun _ => h, fun _ => rfl⟩
theorem Tells.of_no {p : Prop} (h : Tells false p) : ¬ p := fun h' => (by have := h.2 h'; cases this)
theorem Tells.of_yes {p : Prop} (h : Tells true p) : p := h.1 rfl

set_option maxRecDepth 100000 in
set_option maxHeartbeats 8000000 in
theorem refCheck_calls (l : List Opr) (hl : l.length * 72 ≤ 140737488351232) (hin : ∀ x ∈ l, x.ins.length * 8 ≤ 140737488351232) (v : Value) (w : World) (h : OldO w.heap.size w v l) :
    Calls Try.prog 9 #[.agg #[v]] w (RetChk w l) := by
  obtain ⟨A, cap, rfl, _⟩ := h.form
  obtain ⟨n, hn⟩ : ∃ n, l.length = n := ⟨_, rfl⟩
  rw [hn] at h hl ⊢
  obtain ⟨w0, hw0⟩ : ∃ w0, w.alloc (.cells #[.slice A n cap] 24) = w0 := ⟨_, rfl⟩
  have hB0 : Below w.heap.size w w0 := by rw [← hw0]; exact alloc_low _ _
  have hb0 : w0.heap[w.heap.size]? = some (.cells #[.slice A n cap] 24) := by rw [← hw0]; exact heap_alloc_new w _
  obtain ⟨c0, _⟩ := box1 hb0
  have hs0 : w.heap.size + 1 = w0.heap.size := by rw [← hw0]; simp
  obtain ⟨b0, hbe⟩ : ∃ b0, w.heap.size = b0 := ⟨_, rfl⟩
  rw [hbe] at hb0 c0 hs0 h hB0
  have HL := Lib.hid hn
  have HI := Lib.hid h
  have HIN := Lib.hid hin
  have HW := Lib.hid hw0
  have HB0 := Lib.hid hB0
  have HBX0 := Lib.hid hb0
  have HS0 := Lib.hid hs0
  have HBE := Lib.hid hbe
  clear hn h hin hw0 hB0 hb0 hs0
  by_cases h0 : n = 0
  · subst h0
    clear hbe
    go_enter Try.func9, Try.ntmps9
    rw [← HBE.out] at c0
    go_wp2_with fail
    rw [HW.out]
    go_ret2
    exact ⟨0, 2, rfl, chk_long (.inl HL.out), by rw [HBE.out]; exact HB0.out⟩
  · by_cases h16 : 16 < n
    · have g0 : ¬ (n : Int) < 1 := by omega
      have g0' : decide ((n : Int) < 1) = false := decide_eq_false g0
      have h16' : 16 < (n : Int) := by omega
      clear hbe
      rw [← HBE.out] at c0
      go_enter Try.func9, Try.ntmps9
      go_wp2_with fail
      rw [HW.out]
      go_ret2
      exact ⟨0, 2, rfl, chk_long (.inr (by rw [HL.out]; exact h16)), by rw [HBE.out]; exact HB0.out⟩
    · have g0' : decide ((n : Int) < 1) = false := decide_eq_false (by omega)
      have hdI : decide (16 < (n : Int)) = false := decide_eq_false (by omega)
      have hn1 : 1 ≤ n := by omega
      clear hbe
      rw [← HBE.out] at c0
      go_enter Try.func9, Try.ntmps9
      go_wp2_with fail
      rw [HW.out]
      clear c0
      go_loopw [5] (fun i wr => ∃ k : Nat, i = .int .i64 k ∧ k ≤ n ∧ (∀ j, j < k → okAt l j) ∧ Hid (Below (b0 + 1) w0 wr)) (fun i _ => n - (intOf i).toNat)
      case atStart => exact ⟨0, rfl, Nat.zero_le _, fun _ h => absurd h (Nat.not_lt_zero _), Lib.hid (Below.refl _ _)⟩
      case round =>
        obtain ⟨k, rfl, hk, hok, HBr⟩ := hrel
        have HOK := Lib.hid hok
        have hs := HBr.out.size
        have hs0 := HS0.out
        obtain ⟨r0, _⟩ := box1 ((HBr.out.block b0 (by omega)).trans HBX0.out)
        have HB : Hid (Below b0 w wr) := Lib.hid (HB0.out.trans (HBr.out.mono (by omega)))
        rw [← HBE.out] at r0
        clear hok
        by_cases hlt : k < n
        · obtain ⟨x, hx⟩ : ∃ x, l[k]? = some x := ⟨_, List.getElem?_eq_getElem (by rw [HL.out]; exact hlt)⟩
          obtain ⟨b, off, rfl, hb, hcells⟩ := (OpsAt.low HB.out HI.out).at (by omega)
          obtain ⟨u, ⟨c0, c1, c2, c3, c4, c5, c6⟩, hi⟩ := hcells k x hx
          obtain ⟨A', cap', rfl, _⟩ := hi.form
          obtain ⟨m, hm⟩ : ∃ m, x.ins.length = m := ⟨_, rfl⟩
          have hxin := HIN.out x (List.mem_of_getElem? hx)
          obtain ⟨g2, hg2⟩ := exB (formP x)
          obtain ⟨W1, hW1⟩ : ∃ W1, wr.alloc (.cells #[.int .i64 x.kind, .slice A' x.ins.length cap', .int .i64 x.arg, .int .u32 (x.num : Nat), .int .i64 x.rounds, .int .i64 x.test, .int .u32 (x.lim : Nat)] 49) = W1 := ⟨_, rfl⟩
          have hB1 : Below wr.heap.size wr W1 := by rw [← hW1]; exact alloc_low _ _
          have hbx := heap_alloc_new wr (.cells #[.int .i64 x.kind, .slice A' x.ins.length cap', .int .i64 x.arg, .int .u32 (x.num : Nat), .int .i64 x.rounds, .int .i64 x.test, .int .u32 (x.lim : Nat)] 49)
          rw [hW1] at hbx
          have hs1 : wr.heap.size + 1 = W1.heap.size := by rw [← hW1]; simp
          obtain ⟨⟨d0, d1, d2, d3, d4, d5, d6⟩, -⟩ := box7 hbx
          have hir := hi.keep (W' := W1) (T := fun j => j < wr.heap.size) (fun j hj => hB1.block j (by omega)) (fun j hj => by omega)
          obtain ⟨wz, hwz⟩ : ∃ z, wantN x.kind = z := ⟨_, rfl⟩
          obtain ⟨b1, hb1⟩ : ∃ b1, (x.kind == 8) = b1 := ⟨_, rfl⟩
          obtain ⟨b2, hb2⟩ : ∃ b2, ((k : Int) == (n : Int) - 1) = b2 := ⟨_, rfl⟩
          obtain ⟨b3, hb3⟩ : ∃ b3, (b2 == b1) = b3 := ⟨_, rfl⟩
          obtain ⟨b4, hb4⟩ : ∃ b4, ((m : Int) == wz) = b4 := ⟨_, rfl⟩
          have hb3' : b3 = true ↔ (x.kind = 8 ↔ (k : Int) = (l.length : Int) - 1) := by
            rw [HL.out, ← hb3, ← hb1, ← hb2, beq_iff_eq, Bool.eq_iff_iff, beq_iff_eq, beq_iff_eq]
            exact ⟨fun h => h.symm, fun h => h.symm⟩
          have hOK : okAt l k ↔ (g2 = true ∧ b4 = true ∧ b3 = true) ∧ aheadP x.ins m k := by
            rw [okP_at hx, okP, ← hb3', insP, hwz, hm, ← aheadP.all, hm, ← hg2, ← hb4, beq_iff_eq]
            exact ⟨fun h => ⟨⟨h.2.2, h.2.1.1, h.1⟩, h.2.1.2⟩, fun h => ⟨h.1.2.2, ⟨h.1.2.1, h.2⟩, h.1.1⟩⟩
          have CF0 := fun d os => Calls.regrown_of (d := d) (os := os) (form_calls x A' m cap' g2 hg2 (grow (redrawn W1 d) os))
          have CW0 := fun d os => same_of_pure (refWant_calls x.kind (grow (redrawn W1 d) os))
          rw [hwz] at CW0
          have CF := Lib.hid CF0
          have CW := Lib.hid CW0
          have HM := Lib.hid hm
          rw [hm] at c1 hbx d1 hW1 hir hxin
          have q0 := fun d os => cell_regrown d0 d os
          have q1 := fun d os => cell_regrown d1 d os
          have q2 := fun d os => cell_regrown d2 d os
          have q3 := fun d os => cell_regrown d3 d os
          have q4 := fun d os => cell_regrown d4 d os
          have q5 := fun d os => cell_regrown d5 d os
          have q6 := fun d os => cell_regrown d6 d os
          have HIR := Lib.hid hir
          have HO := Lib.hid hOK
          have HBX := Lib.hid hbx
          have HB1 := Lib.hid hB1
          have HW1 := Lib.hid hW1
          have bad : ¬ okAt l k → Chk l k 13 := fun hn => chk_bad (by rw [HL.out]; exact hlt) (by rw [HL.out]; omega) HOK.out hn
          have HBAD := Lib.hid bad
          have HS1 := Lib.hid hs1
          have hnk : (n : Int) - 1 = (n : Int) - 1 := rfl
          have hw1 : IntKind.i64.wrap ((n : Int) - 1) = (n : Int) - 1 := IntWalk.i64_in _ (by omega)
          have hpq : ∀ q : Bool, (q = true ↔ (g2 = true ∧ b4 = true ∧ b3 = true)) → Hid (okAt l k ↔ qP q (aheadP x.ins m k)) := fun q hq => Lib.hid (by rw [HO.out, qP, hq])
          have HPQ := Lib.hid hpq
          clear hcells hi hx hm hg2 hB1 hbx hb3' hOK bad hW1 CF0 CW0 hir hwz hs1 d0 d1 d2 d3 d4 d5 d6 hpq hnk
          cases g2 with
          | false =>
            have HQ := HPQ.out false (by simp)
            clear HPQ HO
            go_wp2_with fail
            rw [HW1.out]
            refine wp_region_quiet_below (by kernel_rfl) (by kernel_rfl) ?_
            repeat (go_big_quiet_step ((first | exact CF.out _ _ | exact CW.out _ _)))
            refine wpQuiet_nil ?_
            intro w' hw'
            obtain ⟨⟨d, os⟩, rfl⟩ := hw'
            have hB3 := below_regrown W1 d os
            have HR3 := Lib.hid (HBr.out.trans (HB1.out.trans (hB3.mono (by have := HS1.out; omega)) |>.mono (by omega)))
            have HI3 := Lib.hid (HIR.out.keep (T := fun _ => True) (W' := grow (redrawn W1 d) os) (fun j hj => hB3.block j (by have := HS1.out; omega)) (fun _ _ => trivial))
            have hbx3 := (hB3.block wr.heap.size (by have := HS1.out; omega)).trans HBX.out
            clear CF CW q0 q1 q2 q3 q4 q5 q6 c0 c1 c2 c3 c4 c5 c6 hB3 hb1 hb2 hb3 hb4 hw1 r0
            generalize grow (redrawn W1 d) os = w3 at HR3 HI3 hbx3 ⊢
            have r3 := (box1 ((HR3.out.block b0 (by omega)).trans HBX0.out)).1
            rw [← HBE.out] at r3
            obtain ⟨⟨d0, d1, d2, d3, d4, d5, d6⟩, -⟩ := box7 hbx3
            clear hbx3
            go_wp2_with fail
            go_loop [7, 8] (fun p i => ∃ (j : Nat) (r : Bool), i = .int .i64 j ∧ p = .bool r ∧ j ≤ m ∧ Tells r (qP false (aheadP x.ins j k))) (fun _ i => m - (intOf i).toNat)
            case atStart => exact ⟨0, false, rfl, rfl, Nat.zero_le _, ⟨fun h => ⟨h, aheadP.zero _ _⟩, fun h => h.1⟩⟩
            case round =>
              obtain ⟨j, r, rfl, rfl, hj, HR⟩ := hrel
              by_cases hjm : j < m
              · obtain ⟨y, hy⟩ : ∃ y, x.ins[j]? = some y := ⟨_, List.getElem?_eq_getElem (by rw [HM.out]; exact hjm)⟩
                obtain ⟨bi, oi, rfl, -, hci⟩ := HI3.out.at (by omega)
                have e0 := hci j y hy
                have HSU := Lib.hid (aheadP.succ (k := k) hy)
                clear hci hy
                cases r with
                | false =>
                  go_wp2_with fail
                  go_round
                  case rel => exact ⟨j + 1, false, by go_num, rfl, by omega, Tells.no (fun h => HR.of_no ⟨h.1, (HSU.out.1 h.2).1⟩)⟩
                  case measure => simp [intOf]; omega
                | true =>
                  by_cases hy0 : 0 ≤ y
                  · by_cases hyk : y < (k : Int)
                    · go_wp2_with fail
                      go_round
                      case rel => exact ⟨j + 1, true, by go_num, rfl, by omega, Tells.yes ⟨HR.of_yes.1, HSU.out.2 ⟨HR.of_yes.2, hy0, hyk⟩⟩⟩
                      case measure => simp [intOf]; omega
                    · have hd : decide (y < (k : Int)) = false := decide_eq_false hyk
                      go_wp2_with fail
                      go_round
                      case rel => exact ⟨j + 1, false, by go_num, rfl, by omega, Tells.no (fun h => absurd (HSU.out.1 h.2).2.2 hyk)⟩
                      case measure => simp [intOf]; omega
                  · have hd : decide (0 ≤ y) = false := decide_eq_false hy0
                    go_wp2_with fail
                    go_round
                    case rel => exact ⟨j + 1, false, by go_num, rfl, by omega, Tells.no (fun h => absurd (HSU.out.1 h.2).2.1 hy0)⟩
                    case measure => simp [intOf]; omega
              · obtain rfl : j = m := by omega
                cases r with
                | false =>
                  go_wp2_with fail
                  go_ret2
                  exact ⟨_, _, rfl, HBAD.out (fun h => HR.of_no (HQ.out.1 h)), by rw [HBE.out]; exact HB0.out.trans (HR3.out.mono (by omega))⟩
                | true =>
                  go_wp2_with fail
                  go_roundw
                  case rel =>
                    refine ⟨k + 1, by go_num, by omega, fun j' hj' => ?_, HR3⟩
                    by_cases hjk : j' = k
                    · subst hjk
                      exact HQ.out.2 HR.of_yes
                    · exact HOK.out j' (by omega)
                  case measure => simp [intOf]; omega
          | true =>
            cases b4 with
            | false =>
              have HQ := HPQ.out false (by simp)
              clear HPQ HO
              go_wp2_with fail
              rw [HW1.out]
              refine wp_region_quiet_below (by kernel_rfl) (by kernel_rfl) ?_
              repeat (go_big_quiet_step ((first | exact CF.out _ _ | exact CW.out _ _)))
              refine wpQuiet_nil ?_
              intro w' hw'
              obtain ⟨⟨d, os⟩, rfl⟩ := hw'
              have hB3 := below_regrown W1 d os
              have HR3 := Lib.hid (HBr.out.trans (HB1.out.trans (hB3.mono (by have := HS1.out; omega)) |>.mono (by omega)))
              have HI3 := Lib.hid (HIR.out.keep (T := fun _ => True) (W' := grow (redrawn W1 d) os) (fun j hj => hB3.block j (by have := HS1.out; omega)) (fun _ _ => trivial))
              have hbx3 := (hB3.block wr.heap.size (by have := HS1.out; omega)).trans HBX.out
              clear CF CW q0 q1 q2 q3 q4 q5 q6 c0 c1 c2 c3 c4 c5 c6 hB3 hb1 hb2 hb3 hb4 hw1 r0
              generalize grow (redrawn W1 d) os = w3 at HR3 HI3 hbx3 ⊢
              have r3 := (box1 ((HR3.out.block b0 (by omega)).trans HBX0.out)).1
              rw [← HBE.out] at r3
              obtain ⟨⟨d0, d1, d2, d3, d4, d5, d6⟩, -⟩ := box7 hbx3
              clear hbx3
              go_wp2_with fail
              go_loop [7, 8] (fun p i => ∃ (j : Nat) (r : Bool), i = .int .i64 j ∧ p = .bool r ∧ j ≤ m ∧ Tells r (qP false (aheadP x.ins j k))) (fun _ i => m - (intOf i).toNat)
              case atStart => exact ⟨0, false, rfl, rfl, Nat.zero_le _, ⟨fun h => ⟨h, aheadP.zero _ _⟩, fun h => h.1⟩⟩
              case round =>
                obtain ⟨j, r, rfl, rfl, hj, HR⟩ := hrel
                by_cases hjm : j < m
                · obtain ⟨y, hy⟩ : ∃ y, x.ins[j]? = some y := ⟨_, List.getElem?_eq_getElem (by rw [HM.out]; exact hjm)⟩
                  obtain ⟨bi, oi, rfl, -, hci⟩ := HI3.out.at (by omega)
                  have e0 := hci j y hy
                  have HSU := Lib.hid (aheadP.succ (k := k) hy)
                  clear hci hy
                  cases r with
                  | false =>
                    go_wp2_with fail
                    go_round
                    case rel => exact ⟨j + 1, false, by go_num, rfl, by omega, Tells.no (fun h => HR.of_no ⟨h.1, (HSU.out.1 h.2).1⟩)⟩
                    case measure => simp [intOf]; omega
                  | true =>
                    by_cases hy0 : 0 ≤ y
                    · by_cases hyk : y < (k : Int)
                      · go_wp2_with fail
                        go_round
                        case rel => exact ⟨j + 1, true, by go_num, rfl, by omega, Tells.yes ⟨HR.of_yes.1, HSU.out.2 ⟨HR.of_yes.2, hy0, hyk⟩⟩⟩
                        case measure => simp [intOf]; omega
                      · have hd : decide (y < (k : Int)) = false := decide_eq_false hyk
                        go_wp2_with fail
                        go_round
                        case rel => exact ⟨j + 1, false, by go_num, rfl, by omega, Tells.no (fun h => absurd (HSU.out.1 h.2).2.2 hyk)⟩
                        case measure => simp [intOf]; omega
                    · have hd : decide (0 ≤ y) = false := decide_eq_false hy0
                      go_wp2_with fail
                      go_round
                      case rel => exact ⟨j + 1, false, by go_num, rfl, by omega, Tells.no (fun h => absurd (HSU.out.1 h.2).2.1 hy0)⟩
                      case measure => simp [intOf]; omega
                · obtain rfl : j = m := by omega
                  cases r with
                  | false =>
                    go_wp2_with fail
                    go_ret2
                    exact ⟨_, _, rfl, HBAD.out (fun h => HR.of_no (HQ.out.1 h)), by rw [HBE.out]; exact HB0.out.trans (HR3.out.mono (by omega))⟩
                  | true =>
                    go_wp2_with fail
                    go_roundw
                    case rel =>
                      refine ⟨k + 1, by go_num, by omega, fun j' hj' => ?_, HR3⟩
                      by_cases hjk : j' = k
                      · subst hjk
                        exact HQ.out.2 HR.of_yes
                      · exact HOK.out j' (by omega)
                    case measure => simp [intOf]; omega
            | true =>
              cases b3 with
              | false =>
                have HQ := HPQ.out false (by simp)
                clear HPQ HO
                go_wp2_with fail
                rw [HW1.out]
                refine wp_region_quiet_below (by kernel_rfl) (by kernel_rfl) ?_
                repeat (go_big_quiet_step ((first | exact CF.out _ _ | exact CW.out _ _)))
                refine wpQuiet_nil ?_
                intro w' hw'
                obtain ⟨⟨d, os⟩, rfl⟩ := hw'
                have hB3 := below_regrown W1 d os
                have HR3 := Lib.hid (HBr.out.trans (HB1.out.trans (hB3.mono (by have := HS1.out; omega)) |>.mono (by omega)))
                have HI3 := Lib.hid (HIR.out.keep (T := fun _ => True) (W' := grow (redrawn W1 d) os) (fun j hj => hB3.block j (by have := HS1.out; omega)) (fun _ _ => trivial))
                have hbx3 := (hB3.block wr.heap.size (by have := HS1.out; omega)).trans HBX.out
                clear CF CW q0 q1 q2 q3 q4 q5 q6 c0 c1 c2 c3 c4 c5 c6 hB3 hb1 hb2 hb3 hb4 hw1 r0
                generalize grow (redrawn W1 d) os = w3 at HR3 HI3 hbx3 ⊢
                have r3 := (box1 ((HR3.out.block b0 (by omega)).trans HBX0.out)).1
                rw [← HBE.out] at r3
                obtain ⟨⟨d0, d1, d2, d3, d4, d5, d6⟩, -⟩ := box7 hbx3
                clear hbx3
                go_wp2_with fail
                go_loop [7, 8] (fun p i => ∃ (j : Nat) (r : Bool), i = .int .i64 j ∧ p = .bool r ∧ j ≤ m ∧ Tells r (qP false (aheadP x.ins j k))) (fun _ i => m - (intOf i).toNat)
                case atStart => exact ⟨0, false, rfl, rfl, Nat.zero_le _, ⟨fun h => ⟨h, aheadP.zero _ _⟩, fun h => h.1⟩⟩
                case round =>
                  obtain ⟨j, r, rfl, rfl, hj, HR⟩ := hrel
                  by_cases hjm : j < m
                  · obtain ⟨y, hy⟩ : ∃ y, x.ins[j]? = some y := ⟨_, List.getElem?_eq_getElem (by rw [HM.out]; exact hjm)⟩
                    obtain ⟨bi, oi, rfl, -, hci⟩ := HI3.out.at (by omega)
                    have e0 := hci j y hy
                    have HSU := Lib.hid (aheadP.succ (k := k) hy)
                    clear hci hy
                    cases r with
                    | false =>
                      go_wp2_with fail
                      go_round
                      case rel => exact ⟨j + 1, false, by go_num, rfl, by omega, Tells.no (fun h => HR.of_no ⟨h.1, (HSU.out.1 h.2).1⟩)⟩
                      case measure => simp [intOf]; omega
                    | true =>
                      by_cases hy0 : 0 ≤ y
                      · by_cases hyk : y < (k : Int)
                        · go_wp2_with fail
                          go_round
                          case rel => exact ⟨j + 1, true, by go_num, rfl, by omega, Tells.yes ⟨HR.of_yes.1, HSU.out.2 ⟨HR.of_yes.2, hy0, hyk⟩⟩⟩
                          case measure => simp [intOf]; omega
                        · have hd : decide (y < (k : Int)) = false := decide_eq_false hyk
                          go_wp2_with fail
                          go_round
                          case rel => exact ⟨j + 1, false, by go_num, rfl, by omega, Tells.no (fun h => absurd (HSU.out.1 h.2).2.2 hyk)⟩
                          case measure => simp [intOf]; omega
                      · have hd : decide (0 ≤ y) = false := decide_eq_false hy0
                        go_wp2_with fail
                        go_round
                        case rel => exact ⟨j + 1, false, by go_num, rfl, by omega, Tells.no (fun h => absurd (HSU.out.1 h.2).2.1 hy0)⟩
                        case measure => simp [intOf]; omega
                  · obtain rfl : j = m := by omega
                    cases r with
                    | false =>
                      go_wp2_with fail
                      go_ret2
                      exact ⟨_, _, rfl, HBAD.out (fun h => HR.of_no (HQ.out.1 h)), by rw [HBE.out]; exact HB0.out.trans (HR3.out.mono (by omega))⟩
                    | true =>
                      go_wp2_with fail
                      go_roundw
                      case rel =>
                        refine ⟨k + 1, by go_num, by omega, fun j' hj' => ?_, HR3⟩
                        by_cases hjk : j' = k
                        · subst hjk
                          exact HQ.out.2 HR.of_yes
                        · exact HOK.out j' (by omega)
                      case measure => simp [intOf]; omega
              | true =>
                have HQ := HPQ.out true (by simp)
                clear HPQ HO
                go_wp2_with fail
                rw [HW1.out]
                refine wp_region_quiet_below (by kernel_rfl) (by kernel_rfl) ?_
                repeat (go_big_quiet_step ((first | exact CF.out _ _ | exact CW.out _ _)))
                refine wpQuiet_nil ?_
                intro w' hw'
                obtain ⟨⟨d, os⟩, rfl⟩ := hw'
                have hB3 := below_regrown W1 d os
                have HR3 := Lib.hid (HBr.out.trans (HB1.out.trans (hB3.mono (by have := HS1.out; omega)) |>.mono (by omega)))
                have HI3 := Lib.hid (HIR.out.keep (T := fun _ => True) (W' := grow (redrawn W1 d) os) (fun j hj => hB3.block j (by have := HS1.out; omega)) (fun _ _ => trivial))
                have hbx3 := (hB3.block wr.heap.size (by have := HS1.out; omega)).trans HBX.out
                clear CF CW q0 q1 q2 q3 q4 q5 q6 c0 c1 c2 c3 c4 c5 c6 hB3 hb1 hb2 hb3 hb4 hw1 r0
                generalize grow (redrawn W1 d) os = w3 at HR3 HI3 hbx3 ⊢
                have r3 := (box1 ((HR3.out.block b0 (by omega)).trans HBX0.out)).1
                rw [← HBE.out] at r3
                obtain ⟨⟨d0, d1, d2, d3, d4, d5, d6⟩, -⟩ := box7 hbx3
                clear hbx3
                go_wp2_with fail
                go_loop [7, 8] (fun p i => ∃ (j : Nat) (r : Bool), i = .int .i64 j ∧ p = .bool r ∧ j ≤ m ∧ Tells r (qP true (aheadP x.ins j k))) (fun _ i => m - (intOf i).toNat)
                case atStart => exact ⟨0, true, rfl, rfl, Nat.zero_le _, ⟨fun h => ⟨h, aheadP.zero _ _⟩, fun h => h.1⟩⟩
                case round =>
                  obtain ⟨j, r, rfl, rfl, hj, HR⟩ := hrel
                  by_cases hjm : j < m
                  · obtain ⟨y, hy⟩ : ∃ y, x.ins[j]? = some y := ⟨_, List.getElem?_eq_getElem (by rw [HM.out]; exact hjm)⟩
                    obtain ⟨bi, oi, rfl, -, hci⟩ := HI3.out.at (by omega)
                    have e0 := hci j y hy
                    have HSU := Lib.hid (aheadP.succ (k := k) hy)
                    clear hci hy
                    cases r with
                    | false =>
                      go_wp2_with fail
                      go_round
                      case rel => exact ⟨j + 1, false, by go_num, rfl, by omega, Tells.no (fun h => HR.of_no ⟨h.1, (HSU.out.1 h.2).1⟩)⟩
                      case measure => simp [intOf]; omega
                    | true =>
                      by_cases hy0 : 0 ≤ y
                      · by_cases hyk : y < (k : Int)
                        · go_wp2_with fail
                          go_round
                          case rel => exact ⟨j + 1, true, by go_num, rfl, by omega, Tells.yes ⟨HR.of_yes.1, HSU.out.2 ⟨HR.of_yes.2, hy0, hyk⟩⟩⟩
                          case measure => simp [intOf]; omega
                        · have hd : decide (y < (k : Int)) = false := decide_eq_false hyk
                          go_wp2_with fail
                          go_round
                          case rel => exact ⟨j + 1, false, by go_num, rfl, by omega, Tells.no (fun h => absurd (HSU.out.1 h.2).2.2 hyk)⟩
                          case measure => simp [intOf]; omega
                      · have hd : decide (0 ≤ y) = false := decide_eq_false hy0
                        go_wp2_with fail
                        go_round
                        case rel => exact ⟨j + 1, false, by go_num, rfl, by omega, Tells.no (fun h => absurd (HSU.out.1 h.2).2.1 hy0)⟩
                        case measure => simp [intOf]; omega
                  · obtain rfl : j = m := by omega
                    cases r with
                    | false =>
                      go_wp2_with fail
                      go_ret2
                      exact ⟨_, _, rfl, HBAD.out (fun h => HR.of_no (HQ.out.1 h)), by rw [HBE.out]; exact HB0.out.trans (HR3.out.mono (by omega))⟩
                    | true =>
                      go_wp2_with fail
                      go_roundw
                      case rel =>
                        refine ⟨k + 1, by go_num, by omega, fun j' hj' => ?_, HR3⟩
                        by_cases hjk : j' = k
                        · subst hjk
                          exact HQ.out.2 HR.of_yes
                        · exact HOK.out j' (by omega)
                      case measure => simp [intOf]; omega
        · obtain rfl : k = n := by omega
          go_wp2_with fail
          go_ret2
          exact ⟨0, 0, rfl, chk_ok (by rw [HL.out]; exact hn1) (by rw [HL.out]; omega) (by rw [HL.out]; exact HOK.out), by rw [HBE.out]; exact HB.out⟩

end Go.Proofs.Ytbgmhjcccabmmaa.Graph
