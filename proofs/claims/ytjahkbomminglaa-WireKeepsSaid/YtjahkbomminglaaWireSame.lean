/-
  The document's own comparison of items.
-/
import Derived.Test.YtjahkbomminglaaWireItems
import Derived.Test.YtjahkbomminglaaSame
import Derived.BigQuiet
import Derived.Deep.QuietTactic
import Derived.Lib.SlicesS
import Derived.LoopTactic
namespace Go.Proofs.Ytjahkbomminglaa.Wire
open Go Go.RowKit Go.Proofs.Ytjahkbomminglaa.Law

/-- Are these the same items? -/
noncomputable def eqB (l m : List Item) : Bool := @decide (l = m) (Classical.propDecidable _)
theorem eqB_true {l m : List Item} (h : l = m) : eqB l m = true := by unfold eqB; exact @decide_eq_true _ (Classical.propDecidable _) h
theorem eqB_false {l m : List Item} (h : l ≠ m) : eqB l m = false := by unfold eqB; exact @decide_eq_false _ (Classical.propDecidable _) h
theorem eqB_iff {l m : List Item} : eqB l m = true ↔ l = m := by
  by_cases h : l = m
  · rw [eqB_true h]; exact ⟨fun _ => h, fun _ => rfl⟩
  · rw [eqB_false h]; exact ⟨fun e => (by cases e), fun e => absurd e h⟩

theorem item_ext {x y : Item} (h1 : x.kind = y.kind) (h2 : x.n = y.n) (h3 : x.s = y.s) (h4 : x.kids = y.kids) : x = y := by
  cases x; cases y
  simp only [Item.kind, Item.n, Item.s, Item.kids] at h1 h2 h3 h4
  subst h1 h2 h3 h4
  rfl

theorem ret_boolS {a b : Bool} (h : a = b) : Ending.returned (.bool a) = .returned (.bool b) := by rw [h]

/-- A comparison's answer; the world has drawn at most. -/
def Compared (w : World) (b : Bool) (e : Ending) (W : World) : Prop := e = .returned (.bool b) ∧ ∃ d, W = w.drewN d

set_option maxRecDepth 100000 in
set_option maxHeartbeats 8000000 in
theorem refsame_calls : ∀ (N : Nat) (l m : List Item), nodesL l < N → l.length ≤ 9223372036854775807 → m.length ≤ 9223372036854775807 → sizedL l → sizedL m → ∀ (sv tv : Value) (S T : Nat → Prop) (w : World), Items S w sv l → Items T w tv m →
    Calls Try.prog 15 #[sv, tv] w fun e W => e = .returned (.bool (eqB l m)) ∧ ∃ d, W = w.drewN d := by
  intro N
  induction N with
  | zero => exact fun _ _ h => absurd h (Nat.not_lt_zero _)
  | succ N ih =>
    intro l m hm hlong hlong2 hsz hsz2 sv tv S T w hI hJ
    obtain ⟨A, cap, rfl, hcap⟩ := hI.form
    obtain ⟨B, cap2, rfl, hcap2⟩ := hJ.form
    obtain ⟨len, hlen⟩ : ∃ len, l.length = len := ⟨_, rfl⟩
    obtain ⟨len2, hlen2⟩ : ∃ len, m.length = len := ⟨_, rfl⟩
    rw [hlen] at hI hlong hcap ⊢
    rw [hlen2] at hJ hlong2 hcap2 ⊢
    have HI := Lib.hid hI
    have HJ := Lib.hid hJ
    have HL := Lib.hid hlen
    have HL2 := Lib.hid hlen2
    have HM := Lib.hid hm
    have HS := Lib.hid hsz
    have HS2 := Lib.hid hsz2
    clear hI hJ hlen hlen2 hm hsz hsz2
    by_cases hll : len = len2
    · subst hll
      go_enter Try.func15, Try.ntmps15
      go_wp2_with fail
      go_loopw [5] (fun i wr => ∃ k : Nat, i = .int .i64 k ∧ k ≤ len ∧ (∀ j, j < k → l[j]? = m[j]?) ∧ ∃ d, wr = w.drewN d) (fun i _ => len - (intOf i).toNat)
      case atStart => exact ⟨0, rfl, Nat.zero_le _, fun _ h => absurd h (Nat.not_lt_zero _), 0, rfl⟩
      case round =>
        obtain ⟨k, rfl, hk, hsame, hdr⟩ := hrel
        have HSM := Lib.hid hsame
        have HIR : Hid (Items S wr (.slice A len cap) l) := by
          obtain ⟨dr, rfl⟩ := hdr
          exact Items.keep (W := w) (W' := w.drewN dr) (fun _ _ => rfl) (fun _ h => h) HI.out
        have HJR : Hid (Items T wr (.slice B len cap2) m) := by
          obtain ⟨dr, rfl⟩ := hdr
          exact Items.keep (W := w) (W' := w.drewN dr) (fun _ _ => rfl) (fun _ h => h) HJ.out
        have HDR := Lib.hid hdr
        clear hsame hdr
        by_cases hlt : k < len
        · obtain ⟨x, hx⟩ : ∃ x, l[k]? = some x := ⟨_, List.getElem?_eq_getElem (by rw [HL.out]; exact hlt)⟩
          obtain ⟨y, hy⟩ : ∃ y, m[k]? = some y := ⟨_, List.getElem?_eq_getElem (by rw [HL2.out]; exact hlt)⟩
          obtain ⟨bk, off, rfl, hbk, hcells⟩ := HIR.out.at (by omega)
          obtain ⟨bk2, off2, rfl, hbk2, hcells2⟩ := HJR.out.at (by omega)
          obtain ⟨u, ⟨c0, c1, c2, c3⟩, hkid⟩ := hcells k x hx
          obtain ⟨v, ⟨e0, e1, e2, e3⟩, hkid2⟩ := hcells2 k y hy
          obtain ⟨A', cap', rfl, hcap'⟩ := hkid.form
          obtain ⟨B', cap2', rfl, hcap2'⟩ := hkid2.form
          have HX := Lib.hid hx
          have HY := Lib.hid hy
          have hneq : x ≠ y → eqB l m = false := fun h => eqB_false (fun e => h (by rw [e, HY.out] at hx; exact (Option.some.inj hx).symm))
          have HNE := Lib.hid hneq
          have cR := fun d => Calls.quiet_of (ih x.kids y.kids (by have := nodesL_kids hx; have := HM.out; omega) (sized_of (sizedL_get hx HS.out)).2.2.2.2.2 (sized_of (sizedL_get hy HS2.out)).2.2.2.2.2 (sized_kids (sizedL_get hx HS.out)) (sized_kids (sizedL_get hy HS2.out)) _ _ S T (wr.drewN d)
            (Items.keep (W := wr) (W' := wr.drewN d) (fun _ _ => rfl) (fun _ h => h) hkid) (Items.keep (W := wr) (W' := wr.drewN d) (fun _ _ => rfl) (fun _ h => h) hkid2))
          obtain ⟨kl, hkl⟩ : ∃ kl, x.kids.length = kl := ⟨_, rfl⟩
          obtain ⟨kl2, hkl2⟩ : ∃ kl, y.kids.length = kl := ⟨_, rfl⟩
          rw [hkl] at cR c3
          rw [hkl2] at cR e3
          have CR := Lib.hid cR
          clear hcells hcells2 hx hy hkid hkid2 hneq cR hkl hkl2
          by_cases h1 : x.kind = y.kind
          · have H1 := Lib.hid h1
            rw [← h1] at e0
            by_cases h2 : x.n = y.n
            · have H2 := Lib.hid h2
              rw [← h2] at e1
              by_cases h3 : x.s = y.s
              · have H3 := Lib.hid h3
                rw [← h3] at e2
                cases h4 : eqB x.kids y.kids with
                | true =>
                  have H4 := Lib.hid h4
                  have hxy : x = y := item_ext H1.out H2.out H3.out (eqB_iff.1 h4)
                  rw [h4] at CR
                  have HXY := Lib.hid hxy
                  clear h1 h2 h3 h4 hxy
                  go_wp2_with fail
                  go_quiet ((exact CR.out _))
                  clear c0 c1 c2 c3 e0 e1 e2 e3
                  go_wp2_with fail
                  go_roundw
                  case rel =>
                    refine ⟨k + 1, by go_num, by omega, fun j hj => ?_, ?_⟩
                    · by_cases hjk : j = k
                      · subst hjk; rw [HX.out, HY.out, HXY.out]
                      · exact HSM.out j (by omega)
                    · obtain ⟨dr, h⟩ := HDR.out
                      exact ⟨_, by rw [h, World.drewN_drewN]⟩
                  case measure => simp [intOf]; omega
                | false =>
                  have HF := Lib.hid (HNE.out (fun e => by rw [e, eqB_true rfl] at h4; cases h4))
                  rw [h4] at CR
                  clear h1 h2 h3 h4
                  go_wp2_with fail
                  go_quiet ((exact CR.out _))
                  go_wp2_with fail
                  go_ret
                  refine ⟨ret_boolS HF.out.symm, ?_⟩
                  obtain ⟨dr, h⟩ := HDR.out
                  exact ⟨_, by rw [h, World.drewN_drewN]⟩
              · have HF := Lib.hid (HNE.out (fun e => h3 (by rw [e])))
                have hb1 : (x.s.toList == y.s.toList) = false := (Lib.bytes_beq_false_iff _ _).2 h3
                have hb2 : (x.s.toList != y.s.toList) = true := by rw [bne, hb1]; rfl
                clear h1 h2 h3
                go_wp2_with fail
                go_quiet ((exact CR.out _))
                go_wp2_with fail
                go_ret
                refine ⟨ret_boolS HF.out.symm, ?_⟩
                obtain ⟨dr, h⟩ := HDR.out
                exact ⟨_, by rw [h, World.drewN_drewN]⟩
            · have HF := Lib.hid (HNE.out (fun e => h2 (by rw [e])))
              have hb1 : (x.n == y.n) = false := by rw [beq_eq_false_iff_ne]; exact h2
              have hb2 : (x.n != y.n) = true := by rw [bne_iff_ne]; exact h2
              clear h1 h2
              go_wp2_with fail
              go_quiet ((exact CR.out _))
              go_wp2_with fail
              go_ret
              refine ⟨ret_boolS HF.out.symm, ?_⟩
              obtain ⟨dr, h⟩ := HDR.out
              exact ⟨_, by rw [h, World.drewN_drewN]⟩
          · have HF := Lib.hid (HNE.out (fun e => h1 (by rw [e])))
            have hb1 : (x.kind == y.kind) = false := by rw [beq_eq_false_iff_ne]; exact h1
            have hb2 : (x.kind != y.kind) = true := by rw [bne_iff_ne]; exact h1
            clear h1
            go_wp2_with fail
            go_quiet ((exact CR.out _))
            go_wp2_with fail
            go_ret
            refine ⟨ret_boolS HF.out.symm, ?_⟩
            obtain ⟨dr, h⟩ := HDR.out
            exact ⟨_, by rw [h, World.drewN_drewN]⟩
        · obtain rfl : k = len := by omega
          have heq : l = m := by
            apply List.ext_getElem?
            intro j
            by_cases hj : j < k
            · exact HSM.out j hj
            · rw [List.getElem?_eq_none (by rw [HL.out]; omega), List.getElem?_eq_none (by rw [HL2.out]; omega)]
          have HEQ := Lib.hid (eqB_true heq)
          clear heq
          go_wp2_with fail
          go_ret
          exact ⟨ret_boolS HEQ.out.symm, HDR.out⟩
    · have hne : eqB l m = false := eqB_false (fun e => hll (by rw [← HL.out, ← HL2.out, e]))
      have HNE := Lib.hid hne
      have hI1 : ((len : Int) == (len2 : Int)) = false := by rw [beq_eq_false_iff_ne]; omega
      have hI2 : ((len : Int) != (len2 : Int)) = true := by rw [bne_iff_ne]; omega
      clear hne
      go_enter Try.func15, Try.ntmps15
      go_wp2_with fail
      go_ret
      exact ⟨ret_boolS HNE.out.symm, 0, rfl⟩

end Go.Proofs.Ytjahkbomminglaa.Wire
