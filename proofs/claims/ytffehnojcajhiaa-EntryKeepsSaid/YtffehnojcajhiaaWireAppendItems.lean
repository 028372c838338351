/-
  The contract of appendItems: items' bytes behind bytes of the call's own.
-/
import Derived.Test.YtffehnojcajhiaaWireAppend
namespace Go.Proofs.Ytffehnojcajhiaa.Wire
open Go Go.RowKit Go.Proofs.Ytffehnojcajhiaa.Law

set_option maxRecDepth 100000 in
set_option maxHeartbeats 4000000 in
theorem appendItems_calls : ∀ (m : Nat) (l : List Item), nodesL l < m → sizedL l → ∀ (sv v : Value) (xs : List Nat) (base : Nat) (w : World), Old base w sv l → OwnB w base 5 v xs → base ≤ w.heap.size → xs.length + (bytesL l).length ≤ 140737488355000 →
    Calls Try.prog 31 #[v, sv] w (Owned base w (xs ++ bytesL l)) := by
  intro m
  induction m with
  | zero => exact fun _ h => absurd h (Nat.not_lt_zero _)
  | succ m ih =>
    intro l hm hsz sv v xs base w hI hO hb hroom
    obtain ⟨i0, hi, hz0, hz1, hz2⟩ := info_parts info_u8w
    obtain ⟨A, cap, rfl, hcap⟩ := hI.form
    have hlb := length_le_bytes l
    obtain ⟨len, hlen⟩ : ∃ len, l.length = len := ⟨_, rfl⟩
    have hlong : len ≤ 140737488355000 := by omega
    clear hlb
    obtain ⟨F, hF⟩ : ∃ F, xs ++ bytesL l = F := ⟨_, rfl⟩
    rw [hF]
    rw [hlen] at hI ⊢
    have HI := Lib.hid hI
    have HO := Lib.hid hO
    have HL := Lib.hid hlen
    have HF := Lib.hid hF
    have HM := Lib.hid hm
    have HS := Lib.hid hsz
    have hB := Apt.refl base w
    clear hI hO hlen hF hm hsz
    go_enter Try.func31, Try.ntmps31
    go_wp2_with fail
    go_loopw [0, 9] (fun u i wr => ∃ k : Nat, i = .int .i64 k ∧ k ≤ len ∧ OwnB wr base 5 u (xs ++ bytesL (l.take k)) ∧ Apt base w wr) (fun _ i _ => len - (intOf i).toNat)
    case atStart => exact ⟨0, rfl, Nat.zero_le _, by simpa [bytesL] using HO.out, hB⟩
    case round =>
      obtain ⟨k, rfl, hk, h1, h2⟩ := hrel
      have H1 := Lib.hid h1
      clear h1
      have hs := Nat.le_trans hb h2.size
      by_cases hlt : k < len
      · obtain ⟨x, hx⟩ : ∃ x, l[k]? = some x := ⟨_, List.getElem?_eq_getElem (by rw [HL.out]; exact hlt)⟩
        obtain ⟨bk, off, rfl, hbk, hcells⟩ := (HI.out.low h2.low).at (by omega)
        obtain ⟨u, ⟨c0, c1, c2, c3⟩, hkid⟩ := hcells k x hx
        obtain ⟨A', cap', rfl, hcap'⟩ := hkid.form
        obtain ⟨hk1, hk2, hn1, hn2, hs1, hl1⟩ := sized_of (sizedL_get hx HS.out)
        have hno := no_lt (sizedL_get hx HS.out)
        have hsum : bytesL (l.take (k + 1)) = (((bytesL (l.take k) ++ [(x.kind % 256).toNat]) ++ num x.no) ++ sb x.s) ++ bytesL x.kids := by
          rw [bytesL_take_succ hx, bytes_eq]; simp [List.append_assoc]
        have hfit : xs.length + (bytesL (l.take (k + 1))).length ≤ 140737488355000 := by have := bytesL_take_le l (k + 1); omega
        rw [hsum] at hfit
        have cN : ∀ W, Calls Try.prog 49 #[.agg #[.int .i64 x.kind, .int .i64 x.n, .string x.s, .slice A' x.kids.length cap']] W fun e W' => e = .returned (.int .u64 (x.no : Nat)) ∧ Below W.heap.size W W' := fun W => number_calls x.kind x.n hn1 hn2 x.s hs1 A' x.kids.length cap' hl1 W
        simp only [List.length_append, List.length_cons, List.length_nil, sb_length] at hfit
        obtain ⟨kl, hkl⟩ : ∃ kl, x.kids.length = kl := ⟨_, rfl⟩
        rw [hkl] at hkid hcap' hl1 cN c3
        have HSUM := Lib.hid hsum
        have HX := Lib.hid hx
        have HK := Lib.hid hkid
        have CN := Lib.hid cN
        have HFIT := Lib.hid hfit
        clear hcells hx hkid hsum cN hfit hkl
        have hbox := Boxed4.new wr x (.slice A' kl cap')
        have HBOX := Lib.hid hbox
        clear hbox
        go_wp2_with (at_builtin; refine wpList_append_bytes rfl _ _ _ rfl Try.underlying48 hi hz0 hz1 hz2 rfl rfl rfl ((H1.out.alloc _).alloc _) (litAt _ _ _ [(x.kind % 256).toNat] 1 _ (by simp) (by rfl) (by decide) ?lit (by simp; omega)) (by have := HFIT.out; simp; omega) (by simp; omega) ?next)
        case lit =>
          simp only [vals, List.map_cons, List.map_nil]
          rw [show x.kind % 256 = (((x.kind % 256).toNat : Nat) : Int) by omega]; rfl
        case next =>
          intro v1 w1 O1 G1
          have A0 : Apt base wr (wr.alloc (.cells #[.int .i64 x.kind, .int .i64 x.n, .string x.s, .slice A' kl cap'] 71)) := (Apt.refl _ _).alloc hs _
          have A1 := (((Apt.refl base _).alloc (by simp; omega) _).grown G1 ((H1.out.alloc _).alloc _) (Nat.le_refl _) (by simp; omega))
          have hbox := HBOX.out.apt A1
          obtain ⟨d0, d1, d2, d3⟩ := hbox.cells
          have AA := A0.trans A1
          have hs1' := Nat.le_trans hs AA.size
          have HBOX1 := Lib.hid hbox
          have HO1 := Lib.hid O1
          clear G1 H1 HBOX hbox A0 A1 O1
          go_wp2_with fail
          refine (CN.out _).mono ?_
          rintro e w2 ⟨rfl, B2⟩
          have A2 := Apt.of_below B2 hs1'
          have O2 := HO1.out.below B2
          have AA2 := AA.trans A2
          have hs2 := Nat.le_trans hs AA2.size
          have HBOX2 := Lib.hid (HBOX1.out.apt A2)
          clear d0 d1 d2 d3 B2 A2 HBOX1 HO1 AA
          go_wp2_with fail
          refine (appendNum_calls v1 _ (by have := HFIT.out; simp; omega) x.no hno base w2 O2 hs2).mono ?_
          rintro e w3 ⟨v3, rfl, O3, A3⟩
          have AA3 := AA2.trans A3
          have hs3 := Nat.le_trans hs AA3.size
          have hbox := HBOX2.out.apt A3
          obtain ⟨d0, d1, d2, d3⟩ := hbox.cells
          have HBOX3 := Lib.hid hbox
          have HO3 := Lib.hid O3
          clear AA2 hbox HBOX2 O2 O3 A3
          go_wp2_with (at_builtin; refine wpList_append_str rfl _ _ _ _ rfl Try.underlying48 Try.underlying9 hi hz0 hz1 hz2 rfl rfl HO3.out (by have := HFIT.out; simp; omega) hs3 ?next)
          case next =>
            intro v4 w4 O4 G4
            have A4 := (Apt.refl base w3).grown G4 HO3.out (Nat.le_refl _) hs3
            have AA4 := AA3.trans A4
            have hs4 := Nat.le_trans hs AA4.size
            have hbox := HBOX3.out.apt A4
            obtain ⟨d0, d1, d2, d3⟩ := hbox.cells
            have cR := ih x.kids (by have := nodesL_kids HX.out; have := HM.out; omega) (sized_kids (sizedL_get HX.out HS.out)) (.slice A' kl cap') v4 _ base w4 (HK.out.low AA4.low) O4 hs4 (by have := HFIT.out; simp [sb_length]; omega)
            have CR := Lib.hid cR
            clear AA3 G4 A4 hbox HBOX3 O4 cR HO3
            go_wp2_with fail
            refine CR.out.mono ?_
            rintro e w5 ⟨v5, rfl, O5, A5⟩
            have O6 : OwnB w5 base 5 v5 (xs ++ bytesL (l.take (k + 1))) := by
              rw [HSUM.out]; simpa [List.append_assoc] using O5
            have AA5 := h2.trans (AA4.trans A5)
            clear O5 A5 AA4 d0 d1 d2 d3 CR
            go_wp2_with fail
            go_roundw
            case rel => exact ⟨k + 1, by go_num, by omega, O6, AA5⟩
            case measure => simp [intOf]; omega
      · obtain rfl : k = len := by omega
        go_wp2_with fail
        go_ret
        refine ⟨u0, rfl, ?_, h2⟩
        have := H1.out
        rw [List.take_of_length_le (by rw [HL.out]; exact Nat.le_refl _), HF.out] at this
        exact this
end Go.Proofs.Ytffehnojcajhiaa.Wire
