/-
  The walk of the law ModelForms.
-/
import Derived.Test.YtkofipbkfniplaaModelKnown
import Derived.Test.YtkofipbkfniplaaModelRefGood
import Derived.Test.YtkofipbkfniplaaModelRefOrder
import Derived.Test.YtkofipbkfniplaaModelOpen
import Derived.Deep.Fields
namespace Go.Proofs.Ytkofipbkfniplaa.Model
open Go Go.RowKit Go.Lib Go.Sort Go.Shelf Go.Maps Go.Proofs.Ytkofipbkfniplaa.Law Go.Proofs.Ytkofipbkfniplaa.Graph Go.Proofs.Ytkofipbkfniplaa.Fold

/-- What stays through the last line: what lay, and the two boxes. -/
def KeptF (W0 : World) (q : Nat) (gv sv : Value) (W : World) : Prop := Below W0.heap.size W0 W ∧ W.cell? ⟨q, 0, none⟩ = some gv ∧ W.cell? ⟨q + 1, 0, none⟩ = some sv
theorem KeptF.next {W0 W W' : World} {q : Nat} {gv sv : Value} (h : KeptF W0 q gv sv W) (hB : Below W.heap.size W W') (hq : q + 1 < W0.heap.size) : KeptF W0 q gv sv W' := by
  refine ⟨h.1.trans (hB.mono h.1.size), ?_, ?_⟩
  · rw [hB.cell (p := ⟨q, 0, none⟩) (by have := h.1.size; show q < _; omega)]; exact h.2.1
  · rw [hB.cell (p := ⟨q + 1, 0, none⟩) (by have := h.1.size; show q + 1 < _; omega)]; exact h.2.2

theorem getD_replicate_nil (n i : Nat) : (List.replicate n ([] : List Pr)).getD i [] = [] := by
  rw [List.getD_eq_getElem?_getD, List.getElem?_replicate]
  split <;> rfl
set_option maxRecDepth 100000 in
set_option maxHeartbeats 8000000 in
theorem modelForms_law (l : List Opr) (hl : l.length * 72 ≤ 140737488351232) (st : List (List Pr)) (hst : st.length * 24 ≤ 140737488351232) (hss : ∀ p ∈ st, p.length * 24 ≤ 140737488351232) (ps : List Pr) (hps : ps.length * 24 ≤ 140737488351232)
    (gv sv pv' : Value) (w : World) (hG : OldO w.heap.size w gv l) (hS : OldF w.heap.size w sv st) (hP : OldP w.heap.size w pv' ps) :
    Calls Try.prog 3 #[.agg #[gv], .agg #[sv], pv'] w (RetB w true) := by
  obtain ⟨GA, gcap, rfl, _⟩ := hG.form
  obtain ⟨SA, scap, rfl, _⟩ := hS.form
  obtain ⟨PA, pcap, rfl, _⟩ := hP.form
  obtain ⟨n, hn⟩ : ∃ n, l.length = n := ⟨_, rfl⟩
  rw [hn] at hG hl ⊢
  obtain ⟨q, hq⟩ : ∃ q, w.heap.size = q := ⟨_, rfl⟩
  obtain ⟨W1, hW1⟩ : ∃ W1, (w.alloc (gObj (.slice GA n gcap))).alloc (sObj (.slice SA st.length scap)) = W1 := ⟨_, rfl⟩
  have hB1 : Below w.heap.size w W1 := by rw [← hW1]; exact ((Below.refl _ _).alloc (Nat.le_refl _) _).alloc (by simp) _
  have hx : W1.heap[q]? = some (gObj (.slice GA n gcap)) := by rw [← hW1, ← hq]; exact (Below.heap_alloc _ _ _ (by simp)).trans (heap_alloc_new w _)
  have hy : W1.heap[q + 1]? = some (sObj (.slice SA st.length scap)) := by
    rw [← hW1, ← hq]
    have := heap_alloc_new (w.alloc (gObj (.slice GA n gcap))) (sObj (.slice SA st.length scap))
    rwa [World.size_alloc] at this
  have hq1 : q + 1 < W1.heap.size := lt_of_some hy
  have C0 := Lib.hid (order_calls ps (by omega) (.slice PA ps.length pcap) W1 (TwoAt.on hB1 hP))
  have hG1 : OldO W1.heap.size W1 (.slice GA n gcap) l := (OpsAt.low hB1 hG).mono fun _ hb => Nat.lt_of_lt_of_le hb hB1.size
  have hS1 := FoldsAt.on hB1 hS
  have hP1 := TwoAt.on hB1 hP
  have HW := Lib.hid hW1
  have HB := Lib.hid hB1
  have HX := Lib.hid (And.intro hx hy)
  have HQ1 := Lib.hid hq1
  have HG := Lib.hid hG1
  have HS := Lib.hid hS1
  have HP := Lib.hid hP1
  have HN := Lib.hid hn
  have HL := Lib.hid hl
  have HST := Lib.hid hst
  have HSS := Lib.hid hss
  have HPS := Lib.hid hps
  clear hW1 hB1 hx hy hq1 hG1 hS1 hP1 hG hS hP hn hl hst hss hps
  go_enter Try.func3, Try.ntmps3
  go_wp2_with fail
  rw [HW.out]
  refine C0.out.mono ?_
  rintro e W2 ⟨ov, rfl, hO, hB2⟩
  obtain ⟨OA, ocap, rfl, _⟩ := hO.form
  have hq2 : q + 1 < W2.heap.size := Nat.lt_of_lt_of_le HQ1.out hB2.size
  have hK : KeptF W2 q (.slice GA n gcap) (.slice SA st.length scap) W2.drew := ⟨(Below.refl _ _).drew, by
    have := (hB2.block q (by have := HQ1.out; omega)).trans HX.out.1
    show W2.cell? _ = _
    simp [World.cell?, this], by
    have := (hB2.block (q + 1) HQ1.out).trans HX.out.2
    show W2.cell? _ = _
    simp [World.cell?, this]⟩
  have hGW : ∀ W, Below W2.heap.size W2 W → OldO W.heap.size W (.slice GA n gcap) l := fun W hW => (OpsAt.low (hB2.trans (hW.mono hB2.size)) HG.out).mono fun _ hb => Nat.lt_of_lt_of_le hb (hB2.trans (hW.mono hB2.size)).size
  have hSW : ∀ W, Below W2.heap.size W2 W → OldF W.heap.size W (.slice SA st.length scap) st := fun W hW => FoldsAt.on (hB2.trans (hW.mono hB2.size)) HS.out
  have hPW : ∀ W, Below W2.heap.size W2 W → OldP W.heap.size W (.slice PA ps.length pcap) ps := fun W hW => TwoAt.on (hB2.trans (hW.mono hB2.size)) HP.out
  have hOW : ∀ W, Below W2.heap.size W2 W → OldP W.heap.size W (.slice OA (ordN ps).length ocap) (ordN ps) := fun W hW => TwoAt.on hW hO.old
  obtain ⟨gb, hgb⟩ := exB (goodS l st)
  have CK : Hid (∀ W, KeptF W2 q (.slice GA n gcap) (.slice SA st.length scap) W → Calls Try.prog 9 #[] W fun e W' => e = .returned (.bool true) ∧ KeptF W2 q (.slice GA n gcap) (.slice SA st.length scap) W') := Lib.hid fun W hW =>
    (known_calls W).mono fun e W' h => ⟨h.1, hW.next h.2 hq2⟩
  have CE : Hid (∀ W, KeptF W2 q (.slice GA n gcap) (.slice SA st.length scap) W → Calls Try.prog 10 #[.agg #[.slice GA n gcap]] W fun e W' => ∃ g, e = .returned (.agg #[.slice (some ⟨g, 0, none⟩) n n]) ∧ Hid (OldF W'.heap.size W' (.slice (some ⟨g, 0, none⟩) n n) (List.replicate n [])) ∧ KeptF W2 q (.slice GA n gcap) (.slice SA st.length scap) W') := Lib.hid fun W hW =>
    (empty_calls GA n gcap (by have := HL.out; omega) W).mono fun e W' h => by
      obtain ⟨g, he, hF, hB⟩ := h
      exact ⟨g, he, Lib.hid hF.old, hW.next hB hq2⟩
  have CS : Hid (∀ W g, KeptF W2 q (.slice GA n gcap) (.slice SA st.length scap) W → Hid (OldF W.heap.size W (.slice (some ⟨g, 0, none⟩) n n) (List.replicate n [])) → Calls Try.prog 11 #[.agg #[.slice (some ⟨g, 0, none⟩) n n], .agg #[.slice none 0 0]] W fun e W' => e = .returned (.bool true) ∧ KeptF W2 q (.slice GA n gcap) (.slice SA st.length scap) W') := Lib.hid fun W g hW hF =>
    (sameState_calls (List.replicate n []) [] (by have := HL.out; simp; omega) (by simp) (fun i => by rw [getD_replicate_nil]; simp) (fun i => by simp) true ⟨fun _ i => by rw [getD_replicate_nil]; simp, fun _ => rfl⟩ _ _ W hF.out (FoldsAt.nil _ _)).mono fun e W' h => ⟨h.1, hW.next h.2 hq2⟩
  have CG : Hid (∀ W, KeptF W2 q (.slice GA n gcap) (.slice SA st.length scap) W → Calls Try.prog 12 #[.agg #[.slice GA n gcap], .agg #[.slice SA st.length scap]] W fun e W' => e = .returned (.bool gb) ∧ KeptF W2 q (.slice GA n gcap) (.slice SA st.length scap) W') := Lib.hid fun W hW =>
    (good_calls l st (by have := HL.out; have := HN.out; omega) (by have := HST.out; omega) (fun p hp => by have := HSS.out p hp; omega) gb hgb _ _ W (hGW W hW.1) (hSW W hW.1)).mono fun e W' h => ⟨h.1, hW.next h.2 hq2⟩
  have CR : Hid (∀ W, KeptF W2 q (.slice GA n gcap) (.slice SA st.length scap) W → Calls Try.prog 13 #[.agg #[.slice GA n gcap], .agg #[.slice SA st.length scap]] W fun e W' => e = .returned (.bool gb) ∧ KeptF W2 q (.slice GA n gcap) (.slice SA st.length scap) W') := Lib.hid fun W hW =>
    (refGood_calls l st (by have := HL.out; have := HN.out; omega) (by have := HST.out; omega) (fun p hp => by have := HSS.out p hp; omega) gb hgb _ _ W (hGW W hW.1) (hSW W hW.1)).mono fun e W' h => ⟨h.1, hW.next h.2 hq2⟩
  have CO : Hid (∀ W, KeptF W2 q (.slice GA n gcap) (.slice SA st.length scap) W → Calls Try.prog 15 #[.slice PA ps.length pcap] W fun e W' => ∃ A c, e = .returned (.slice A (ordN ps).length c) ∧ Hid (OldP W'.heap.size W' (.slice A (ordN ps).length c) (ordN ps)) ∧ KeptF W2 q (.slice GA n gcap) (.slice SA st.length scap) W') := Lib.hid fun W hW =>
    (refOrder_calls ps.length ps rfl HPS.out _ W (hPW W hW.1)).mono fun e W' h => by
      obtain ⟨v, he, hO, hB⟩ := h
      obtain ⟨A, c, rfl, _⟩ := hO.form
      exact ⟨A, c, he, Lib.hid hO.old, hW.next hB hq2⟩
  have CP : Hid (∀ W A c, KeptF W2 q (.slice GA n gcap) (.slice SA st.length scap) W → Hid (OldP W.heap.size W (.slice A (ordN ps).length c) (ordN ps)) → Calls Try.prog 14 #[.slice OA (ordN ps).length ocap, .slice A (ordN ps).length c] W fun e W' => e = .returned (.bool true) ∧ KeptF W2 q (.slice GA n gcap) (.slice SA st.length scap) W') := Lib.hid fun W A c hW hF =>
    (samePairs_calls (ordN ps) (ordN ps) (by rw [ordN_length]; have := HPS.out; omega) (by rw [ordN_length]; have := HPS.out; omega) true (by simp) _ _ W (hOW W hW.1) hF.out).mono fun e W' h => ⟨h.1, hW.next h.2 hq2⟩
  have HFIN : Hid (∀ W, Below W2.heap.size W2 W → Below w.heap.size w W) := Lib.hid fun W hW => HB.out.trans ((hB2.trans (hW.mono hB2.size)).mono HB.out.size)
  have e0 : ((n : Int) == (n : Int)) = true := beq_self_eq_true _
  have e1 : (gb == gb) = true := beq_self_eq_true _
  generalize (ordN ps).length = m at CO CP hOW ⊢
  obtain ⟨hK0, hK1, hK2⟩ := hK
  have HK0 := Lib.hid hK0
  clear hGW hSW hPW hOW hO hB2 hgb hK0
  go_wp2_with fail
  have hK0 := HK0.out
  have kk1 : W2.cell? ⟨q, 0, none⟩ = some (.slice GA n gcap) := hK1
  have kk2 : W2.cell? ⟨q + 1, 0, none⟩ = some (.slice SA st.length scap) := hK2
  have hfd : ∀ (w : World) (g : Nat), (Instr.field 27 (.agg #[.slice (some ⟨g, 0, none⟩) n n]) 0).run Try.prog w = .ok (.slice (some ⟨g, 0, none⟩) n n) w := fun _ _ => by kernel_rfl
  go_region_held3 (fun w' => Below W2.heap.size W2 w' ∧ w'.cell? ⟨q, 0, none⟩ = some (.slice GA n gcap) ∧ w'.cell? ⟨q + 1, 0, none⟩ = some (.slice SA st.length scap)) (first | exact ⟨by assumption, by assumption, by assumption⟩ | exact ⟨(Below.refl _ _).drew, kk1, kk2⟩ | assumption | go_keep) (first
    | (go_at_call 9; (refine (CK.out _ ⟨by first | assumption | exact hK0, by first | assumption | exact kk1, by first | assumption | exact kk2⟩).mono ?_); rintro e W9 ⟨rfl, b9, k9, j9⟩)
    | (go_at_call 10; (refine (CE.out _ ⟨by first | assumption | exact hK0, by first | assumption | exact kk1, by first | assumption | exact kk2⟩).mono ?_); rintro e W9 ⟨g9, rfl, f9, b9, k9, j9⟩)
    | (go_at_call 11; (refine (CS.out _ _ ⟨by first | assumption | exact hK0, by first | assumption | exact kk1, by first | assumption | exact kk2⟩ (by assumption)).mono ?_); rintro e W9 ⟨rfl, b9, k9, j9⟩)
    | (go_at_call 12; (refine (CG.out _ ⟨by first | assumption | exact hK0, by first | assumption | exact kk1, by first | assumption | exact kk2⟩).mono ?_); rintro e W9 ⟨rfl, b9, k9, j9⟩)
    | (go_at_call 13; (refine (CR.out _ ⟨by first | assumption | exact hK0, by first | assumption | exact kk1, by first | assumption | exact kk2⟩).mono ?_); rintro e W9 ⟨rfl, b9, k9, j9⟩)
    | (go_at_call 15; (refine (CO.out _ ⟨by first | assumption | exact hK0, by first | assumption | exact kk1, by first | assumption | exact kk2⟩).mono ?_); rintro e W9 ⟨A9, c9, rfl, f9, b9, k9, j9⟩)
    | (go_at_call 14; (refine (CP.out _ _ _ ⟨by first | assumption | exact hK0, by first | assumption | exact kk1, by first | assumption | exact kk2⟩ (by assumption)).mono ?_); rintro e W9 ⟨rfl, b9, k9, j9⟩))
  all_goals go_wp2_with fail
  all_goals go_ret
  all_goals exact ⟨rfl, HFIN.out _ (by assumption)⟩

end Go.Proofs.Ytkofipbkfniplaa.Model
