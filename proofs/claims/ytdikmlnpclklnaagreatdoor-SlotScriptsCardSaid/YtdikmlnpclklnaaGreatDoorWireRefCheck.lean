/-
  The document's own check and size of items.
-/
import Derived.Test.YtdikmlnpclklnaaGreatDoorWireApt
import Derived.IntWalk
import Derived.BigQuiet
namespace Go.Proofs.YtdikmlnpclklnaaGreatDoor.Wire
open Go Go.RowKit Go.Proofs.YtdikmlnpclklnaaGreatDoor.Law

/-- Two numbers; nothing that lay has turned. -/
def TwoNats (w : World) (R : Nat × Nat) (e : Ending) (W : World) : Prop := e = .returned (.tuple #[.int .i64 (R.1 : Nat), .int .i64 (R.2 : Nat)]) ∧ Below w.heap.size w W

set_option maxRecDepth 100000 in
set_option maxHeartbeats 4000000 in
theorem check_calls : ∀ (m : Nat) (l : List Item), nodesL l < m → sizedL l → l.length ≤ 9223372036854775807 → ∀ (sv : Value) (d c base : Nat) (w : World), Old base w sv l → base ≤ w.heap.size → d ≤ 9 → c ≤ 4096 →
    Calls Tryz.prog 112 #[sv, .int .i64 (d : Nat), .int .i64 (c : Nat)] w (TwoNats w (chkL d c l)) := by
  intro m
  induction m with
  | zero => exact fun _ h => absurd h (Nat.not_lt_zero _)
  | succ m ih =>
    intro l hm hsz hlong sv d c base w hI hbw hd hc
    obtain ⟨A, cap, rfl, hcap⟩ := hI.form
    obtain ⟨len, hlen⟩ : ∃ len, l.length = len := ⟨_, rfl⟩
    obtain ⟨R, hR⟩ : ∃ R, chkL d c l = R := ⟨_, rfl⟩
    rw [hR]
    rw [hlen] at hI hlong hcap ⊢
    have h0 : ∃ c0 : Nat, c0 ≤ 4096 ∧ chkL d c0 l = R ∧ ((c : Nat) : Int) = (c0 : Nat) := ⟨c, hc, hR, rfl⟩
    have H0 := Lib.hid h0
    have HI := Lib.hid hI
    have HL := Lib.hid hlen
    have HM := Lib.hid hm
    have HS := Lib.hid hsz
    clear h0 hI hlen hm hsz hR hc
    go_enter Tryz.func112, Tryz.ntmps112
    go_wp2_with fail
    go_loopw [8, 2] (fun i z wr => ∃ k c : Nat, i = .int .i64 k ∧ z = .int .i64 (c : Nat) ∧ k ≤ len ∧ c ≤ 4096 ∧ chkL d c (l.drop k) = R ∧ Below w.heap.size w wr) (fun i _ _ => len - (intOf i).toNat)
    case atStart =>
      obtain ⟨c0, h1, h2, h3⟩ := H0.out
      exact ⟨0, c0, rfl, by rw [h3], Nat.zero_le _, h1, h2, Below.refl _ _⟩
    case round =>
      obtain ⟨k, c, rfl, rfl, hk, hc, h3, h6⟩ := hrel
      have H3 := Lib.hid h3
      have hs := h6.size
      clear h3
      by_cases hlt : k < len
      · obtain ⟨x, hx⟩ : ∃ x, l[k]? = some x := ⟨_, List.getElem?_eq_getElem (by rw [HL.out]; exact hlt)⟩
        have hI6 := Items.low (h6.mono hbw) HI.out
        obtain ⟨bk, off, rfl, hbk, hcells⟩ := hI6.at (by omega)
        obtain ⟨u, ⟨c0, c1, c2, c3⟩, hkid⟩ := hcells k x hx
        obtain ⟨A', cap', rfl, hcap'⟩ := hkid.form
        obtain ⟨hk1, hk2, hn1, hn2, hs1, hl1⟩ := sized_of (sizedL_get hx HS.out)
        have hd3 : chkL d c (l.drop k) = if (chkI d c x).2 ≠ 0 then chkI d c x else chkL d (chkI d c x).1 (l.drop (k + 1)) := by rw [drop_get hx, chkL_cons]
        have hci := chkI_eq d c x
        have cF : ∀ W, Calls Tryz.prog 140 #[.agg #[.int .i64 x.kind, .int .i64 x.n, .string x.s, .slice A' x.kids.length cap']] W fun e W' => e = .returned (.bool x.form) ∧ Below W.heap.size W W' := fun W => refform x.kind x.n x.s A' x.kids.length cap' W
        obtain ⟨kl, hkl⟩ : ∃ kl, x.kids.length = kl := ⟨_, rfl⟩
        rw [hkl] at hkid hcap' hl1 cF c3
        have HKL := Lib.hid hkl
        have HX := Lib.hid hx
        have HK := Lib.hid hkid
        have CF := Lib.hid cF
        have HD3 := Lib.hid hd3
        have HCI := Lib.hid hci
        clear hI6 hcells hx hkid hd3 hci cF hkl
        go_wp2_with fail
        refine (CF.out _).mono ?_
        rintro e w2 ⟨rfl, B2⟩
        have hB2 := h6.trans (B2.mono hs)
        have cc0 : ∀ j, w2.cell? ⟨bk, j, none⟩ = wr.cell? ⟨bk, j, none⟩ := fun j => B2.cell (p := ⟨bk, j, none⟩) (by show bk < wr.heap.size; omega)
        have d3 := (cc0 _).trans c3
        have HB2 := Lib.hid hB2
        have HK2 := Lib.hid (Items.low (B2.mono (show base ≤ wr.heap.size by omega)) HK.out)
        clear c0 c1 c2 c3 cc0 B2 hB2 HK
        cases hform : x.form with
        | false =>
          have HFORM := Lib.hid hform
          clear hform
          go_wp2_with fail
          go_ret2
          have hRR : R = (c + 1, 3) := by
            rw [← H3.out, HD3.out, HCI.out, HFORM.out]; simp
          subst hRR
          exact ⟨rfl, HB2.out⟩
        | true =>
          have HFORM := Lib.hid hform
          clear hform
          by_cases hbig : 4096 < c + 1
          · have hbI : 4096 < ((c + 1 : Nat) : Int) := by omega
            go_wp2_with fail
            go_ret2
            have hRR : R = (c + 1, 2) := by
              have h1 : chkI d c x = (c + 1, 2) := by rw [HCI.out, HFORM.out, if_neg Bool.noConfusion, if_pos (Or.inl hbig)]
              rw [← H3.out, HD3.out, h1]; rfl
            rw [hRR]
            exact ⟨rfl, HB2.out⟩
          · have hbI : ((c + 1 : Nat) : Int) ≤ 4096 := by omega
            by_cases hdd : 8 < d
            · have hdI : 8 < (d : Int) := by omega
              go_wp2_with fail
              go_ret2
              have hRR : R = (c + 1, 2) := by
                have h1 : chkI d c x = (c + 1, 2) := by rw [HCI.out, HFORM.out, if_neg Bool.noConfusion, if_pos (Or.inr hdd)]
                rw [← H3.out, HD3.out, h1]; rfl
              rw [hRR]
              exact ⟨rfl, HB2.out⟩
            · have hdI : (d : Int) ≤ 8 := by omega
              obtain ⟨⟨c', e'⟩, hR'⟩ : ∃ R', chkL (d + 1) (c + 1) x.kids = R' := ⟨_, rfl⟩
              have hs2 := HB2.out.size
              have cR := ih x.kids (by have := nodesL_kids HX.out; have := HM.out; omega) (sized_kids (sizedL_get HX.out HS.out)) (by rw [HKL.out]; exact hl1) (.slice A' kl cap') (d + 1) (c + 1) base w2 HK2.out (by omega) (by omega) (by omega)
              rw [hR', show ((d + 1 : Nat) : Int) = (d : Int) + 1 by omega, show ((c + 1 : Nat) : Int) = (c : Int) + 1 by omega] at cR
              have hci' : chkI d c x = (c', e') := by
                rw [HCI.out, HFORM.out, if_neg Bool.noConfusion, if_neg (by omega)]; exact hR'
              have CR := Lib.hid cR
              have HCI' := Lib.hid hci'
              clear cR hR' hci'
              go_wp2_with fail
              refine CR.out.mono ?_
              rintro e w5 ⟨rfl, B5⟩
              have hB5 := HB2.out.trans (B5.mono hs2)
              have HB5 := Lib.hid hB5
              clear hB5 B5 CR d3
              by_cases he : e' = 0
              · subst he
                have hok := chkI_ok d c x (by rw [HCI'.out])
                have hck : c' = c + x.nodes := by have := hok.1; rw [HCI'.out] at this; exact this
                have hok3 := hok.2.2
                have h3' : chkL d c' (l.drop (k + 1)) = R := by rw [← H3.out, HD3.out, HCI'.out]; simp
                have hc6 : c' ≤ 4096 := by omega
                have HALL := Lib.hid (And.intro hc6 h3')
                clear hok hck hok3 h3' hc6
                go_wp2_with fail
                go_roundw
                case rel =>
                  obtain ⟨a1, a2⟩ := HALL.out
                  exact ⟨k + 1, c', by go_num, rfl, by omega, a1, a2, HB5.out⟩
                case measure => simp [intOf]; omega
              · have heI : ¬ (e' : Int) = 0 := by omega
                have hRR : R = (c', e') := by rw [← H3.out, HD3.out, HCI'.out]; simp [he]
                have HRR := Lib.hid hRR
                clear hRR
                go_wp2_with fail
                go_ret2
                rw [HRR.out]
                exact ⟨rfl, HB5.out⟩
      · obtain rfl : k = len := by omega
        have hRR : R = (c, 0) := by rw [← H3.out, List.drop_of_length_le (by rw [HL.out]; exact Nat.le_refl _), chkL_nil]
        have HRR := Lib.hid hRR
        clear hRR
        go_wp2_with fail
        go_ret2
        rw [HRR.out]
        exact ⟨rfl, h6⟩

end Go.Proofs.YtdikmlnpclklnaaGreatDoor.Wire
