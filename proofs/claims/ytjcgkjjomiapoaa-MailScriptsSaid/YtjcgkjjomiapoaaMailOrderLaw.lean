/-
  The walk of the law MailOrder: whatever the rows of bytes and the number, it returns true and nothing that lay has turned.
-/
import Derived.Test.YtjcgkjjomiapoaaMailKnown
import Derived.Test.YtjcgkjjomiapoaaMailOpen
import Derived.Deep.QuietTactic
import Derived.BigQuiet
import Derived.WalkSmall
import Derived.Deep.DeepCutAuto
namespace Go.Proofs.Ytjcgkjjomiapoaa.Mail
open Go Go.RowKit Go.Proofs.Ytjcgkjjomiapoaa.Law

theorem Seg.lower' {W : World} {base b' size n : Nat} {e : TypeId} {v : Value} {xs : List Value} (h : Seg W base e size v n xs) (hb : b' ≤ base) : Seg W b' e size v n xs := by
  refine ⟨h.1, ?_⟩
  rcases h.2 with h0 | ⟨g, o, cap, cur, rfl, h1, h2⟩
  · exact .inl h0
  · exact .inr ⟨g, o, cap, cur, rfl, by omega, h2⟩
theorem Post.lower {W : World} {base b' p : Nat} {nodes : Int} {ms : List Msg} (h : Post W base p nodes ms) (hb : b' ≤ base) : Post W b' p nodes ms := by
  obtain ⟨h0, rv, h1, h2⟩ := h
  exact ⟨by omega, rv, h1, Seg.lower' h2 hb⟩

def isRowB (t : TypeId) : Bool := t == 32

/-- The bytes that were sent, as the law keeps them. -/
def KeptB (n₀ : Nat) (W : World) (base : Nat) (v : Value) (ms : List Msg) : Prop :=
  ∃ xs : List Value, W.ownsRow base 32 1 v ms.length xs ∧ ∀ (j : Nat) (m : Msg), ms[j]? = some m → ∃ u bs, xs[j]? = some u ∧ Bytes n₀ W u bs ∧ m.s = str bs ∧ bs.length ≤ 65536

theorem KeptB.nil (n₀ : Nat) (W : World) (base : Nat) : KeptB n₀ W base (.slice none 0 0) [] := ⟨[], World.ownsRow_nil _ _ _ _, by simp⟩
theorem KeptB.frm {S : TypeId → Bool} {B n₀ : Nat} {W W' : World} {base : Nat} {v : Value} {ms : List Msg} (h : KeptB n₀ W base v ms) (hF : Frm S B W W') (hS : S 32 = false) (hB : Below n₀ W W') : KeptB n₀ W' base v ms := by
  obtain ⟨xs, h1, h2⟩ := h
  refine ⟨xs, row_frm h1 hF hS, fun j m hm => ?_⟩
  obtain ⟨u, bs, h3, h4, h5⟩ := h2 j m hm
  exact ⟨u, bs, h3, h4.below hB, h5⟩
theorem KeptB.form {n₀ : Nat} {W : World} {base : Nat} {v : Value} {ms : List Msg} (h : KeptB n₀ W base v ms) : ∃ A c, v = .slice A ms.length c := by
  obtain ⟨xs, h1, _⟩ := h
  exact row_form h1
theorem KeptB.cell {n₀ : Nat} {W : World} {base n cap : Nat} {A : Option Addr} {ms : List Msg} (h : KeptB n₀ W base (.slice A n cap) ms) {j : Nat} {m : Msg} (hm : ms[j]? = some m) (hj : 0 < n) :
    ∃ g u bs, A = some ⟨g, 0, none⟩ ∧ base ≤ g ∧ g < W.heap.size ∧ W.cell? ⟨g, j, none⟩ = some u ∧ Bytes n₀ W u bs ∧ m.s = str bs ∧ bs.length ≤ 65536 := by
  obtain ⟨xs, h1, h2⟩ := h
  obtain ⟨u, bs, h3, h4, h5, h6⟩ := h2 j m hm
  have hlt := h1.lt
  have hc := fun (g : Nat) (hg : (Value.slice A n cap).ownBlock = some g) => h1.cells hg
  rcases h1.2 with ⟨hv, h0⟩ | ⟨g, cap', cur, hv, hb, hg, _⟩
  · simp only [Value.slice.injEq] at hv
    omega
  · simp only [Value.slice.injEq] at hv
    obtain ⟨rfl, rfl, rfl⟩ := hv
    refine ⟨g, u, bs, rfl, hb, (hlt g rfl).2, ?_, h4, h5, h6⟩
    have := hc g rfl j u h3
    rwa [Addr.add_lit, Nat.zero_add] at this

theorem place_mod (z : Int) (n : Nat) (h0 : 0 < n) (hn : n ≤ 1000000) : ∃ s : Nat, s < n ∧ wrap64 ((IntKind.u64.wrap z).tmod (n : Int)) = (s : Int) := by
  have h1 : 0 ≤ IntKind.u64.wrap z := by unfold IntKind.wrap; simp [IntKind.signed]; omega
  have h2 := Int.tmod_nonneg (n : Int) h1
  have h3 := Int.tmod_lt_of_pos (IntKind.u64.wrap z) (show (0 : Int) < n by omega)
  refine ⟨((IntKind.u64.wrap z).tmod (n : Int)).toNat, by omega, ?_⟩
  unfold wrap64
  omega

/-- One more is kept. -/
theorem KeptB.append {n₀ : Nat} {W : World} {base : Nat} {v : Value} {ms : List Msg} (h : KeptB n₀ W base v ms) (hb : n₀ ≤ base) (hbase : base ≤ W.heap.size) (ty : TypeId) (b : Nat) (u : Value) (bs : List Nat) (m : Msg)
    (hu : W.cell? ⟨b, 0, none⟩ = some u) (hI : Bytes n₀ W u bs) (hm : m.s = str bs) (hl : bs.length ≤ 65536) (hroom : ms.length ≤ 100) :
    ∃ A' c' W', (Builtin.append_ #[56, 56] ty #[v, .slice (some ⟨b, 0, none⟩) 1 1]).run Try.prog W = .ok (.slice A' (ms.length + 1) c') W' ∧ KeptB n₀ W' base (.slice A' (ms.length + 1) c') (ms ++ [m]) ∧ Frm isRowB base W W' := by
  obtain ⟨i0, hi, hz0, hz1, hz2⟩ := info_parts info_rowB
  obtain ⟨A, cap, rfl, h256, hA, h0, hc⟩ := id hI
  obtain ⟨xs, h1, h2⟩ := h
  have hone : (Value.slice A bs.length cap).oneCell' = true := rfl
  obtain ⟨v', W', hrun, h3, h4, _, _⟩ := run_append_own_at (P := Try.prog) W base 56 ty 32 i0 _ 1 24 Try.underlying56 hi hz0 hz1 hz2 rfl (by decide) v ms.length xs h1 ⟨b, 0, none⟩ 1 1 [.slice A bs.length cap] rfl
    (fun j w hw => by
      match j, hw with
      | 0, hw => rw [Addr.add_lit, hu]; simpa using hw
      | j + 1, hw => simp at hw) (by simpa using hone) (by simp only [maxLen]; omega) (by omega) hbase
  obtain ⟨A', c', rfl⟩ := row_form h3
  have hF : Frm isRowB base W W' := (Frm.refl isRowB base W).grown_row h4 h1 (by decide) (Nat.le_refl _) hbase
  refine ⟨A', c', W', hrun, ⟨xs ++ [.slice A bs.length cap], by rw [List.length_append]; exact h3, fun j m' hm' => ?_⟩, hF⟩
  have hxl : xs.length = ms.length := by have := h1.1; omega
  by_cases hj : j < ms.length
  · rw [List.getElem?_append_left hj] at hm'
    obtain ⟨u, bs', h5, h6, h7⟩ := h2 j m' hm'
    exact ⟨u, bs', by rw [List.getElem?_append_left (by omega)]; exact h5, h6.below (hF.low.mono hb), h7⟩
  · rw [List.getElem?_append_right (by omega)] at hm'
    have hj0 : j - ms.length = 0 := by
      have := (List.getElem?_eq_some_iff.1 hm').1
      simp at this; omega
    rw [hj0] at hm'
    simp only [List.getElem?_cons_zero, Option.some.injEq] at hm'
    subst hm'
    exact ⟨.slice A bs.length cap, bs, by rw [List.getElem?_append_right (by omega), hxl, hj0]; rfl, hI.below (hF.low.mono hb), hm, hl⟩

set_option maxRecDepth 100000 in
set_option maxHeartbeats 8000000 in
theorem mailOrder_law (sv : Value) (bss : List (List Nat)) (hlen : bss.length ≤ maxLen) (hlens : ∀ j, j < bss.length → (bss.getD j []).length ≤ maxLen) (z : Int) (w : World) (hI : ByteRows w.heap.size w sv bss) :
    Calls Try.prog 6 #[sv, .int .i64 z] w fun e W => e = .returned (.bool true) ∧ Below w.heap.size w W := by
  obtain ⟨A, cap, rfl⟩ := hI.form
  obtain ⟨len, hl⟩ : ∃ len, bss.length = len := ⟨_, rfl⟩
  rw [hl] at hI hlen hlens ⊢
  unfold maxLen at hlen
  have HI := Lib.hid hI
  have HLS := Lib.hid hlens
  clear hI hlens hl
  go_enter Try.func6, Try.ntmps6
  go_wp2_with fail
  refine (known_calls w).mono ?_
  rintro e w1 ⟨rfl, hB1⟩
  have hs1 := hB1.size
  have HB1 := Lib.hid hB1
  clear hB1
  go_wp2_with fail
  refine (new_calls 2 (by decide) (by decide) w1).mono ?_
  rintro e w2 ⟨rfl, hP2, hB2⟩
  have hF0 : Frm isPost w.heap.size w w2 := (Frm.of_below HB1.out (Nat.le_refl _)).then_below hB2 hs1
  have hB0 := hF0.low
  have HP2 := Lib.hid (hP2.lower hs1)
  have HB0 := Lib.hid hB0
  clear hP2 hB2 HB1 hF0 hB0
  go_wp2_with fail
  go_loopw [7, 8] (fun v i wr => ∃ (k : Nat) (ms : List Msg), i = .int .i64 k ∧ k ≤ len ∧ k ≤ 40 ∧ ms.length ≤ k ∧ Post wr w.heap.size w1.heap.size 2 ms ∧ KeptB w.heap.size wr w.heap.size v ms ∧ Below w.heap.size w wr) (fun _ i _ => 40 - (intOf i).toNat)
  case atStart => exact ⟨0, [], rfl, Nat.zero_le _, by decide, Nat.le_refl _, HP2.out, KeptB.nil _ _ _, HB0.out⟩
  case round =>
    obtain ⟨k, ms, rfl, hk, hk40, hmk, hP, hK, hBr⟩ := hrel
    obtain ⟨A7, c7, rfl⟩ := hK.form
    have hsr := hBr.size
    have HP := Lib.hid hP
    have HK := Lib.hid hK
    have HBr := Lib.hid hBr
    clear hP hK hBr HP2 HB0
    by_cases hlt : k < len ∧ k < 40
    · obtain ⟨hlt, hlt40⟩ := hlt
      obtain ⟨b, off, rfl, hb, hcs⟩ := HI.out.cells (by omega)
      obtain ⟨u, hcu, hIu⟩ := hcs k hlt
      have hcu := (HBr.out.cell (p := ⟨b, off + k, none⟩) hb).trans hcu
      have hIr := hIu.below HBr.out
      obtain ⟨bs, hbs⟩ : ∃ bs, bss.getD k [] = bs := ⟨_, rfl⟩
      rw [hbs] at hIr
      have hbl : bs.length ≤ 9223372036854775807 := by have := HLS.out k hlt; rw [hbs] at this; unfold maxLen at this; omega
      obtain ⟨Au, cu, rfl⟩ := hIr.form
      have ha : (0 : Int) ≤ (k : Int) % 2 ∧ (k : Int) % 2 < 2 := by omega
      have hb2 : (0 : Int) ≤ 1 - (k : Int) % 2 ∧ 1 - (k : Int) % 2 < 2 := by omega
      have HA := Lib.hid ha
      have HB2 := Lib.hid hb2
      have HIr := Lib.hid hIr
      have hkI : (k : Int) < (len : Int) := by omega
      have hkI2 : (k : Int) < 40 := by omega
      have hbr : b < wr.heap.size := by omega
      clear hcs hIu hIr hbs ha hb2
      by_cases hfit : bs.length ≤ 65536
      · obtain ⟨bl, hbl'⟩ : ∃ bl, bs.length = bl := ⟨_, rfl⟩
        have CS := Lib.hid (send_calls w.heap.size w1.heap.size 2 ms wr HP.out hsr _ _ HA.out HB2.out _ bs (HIr.out.more hsr) hfit (by omega))
        rw [hbl'] at hcu CS hbl
        have HBL := Lib.hid hbl'
        clear hbl'
        go_wp2_with fail
        refine CS.out.mono ?_
        rintro e w3 ⟨rfl, hP3, hF3⟩
        have hB3 := HBr.out.trans hF3.low
        have hs3 := hB3.size
        have hcu3 := (hF3.low.cell (p := ⟨b, off + k, none⟩) hb).trans hcu
        have hK3 := HK.out.frm hF3 (by decide) hF3.low
        have hI3 := HIr.out.below hF3.low
        rw [HBL.out] at hI3
        have hw4 := heap_alloc_new w3 (.cells #[.slice Au bl cu] 32)
        have hb4 := (Below.refl w3.heap.size w3).alloc (Nat.le_refl _) (.cells #[.slice Au bl cu] 32)
        obtain ⟨A', c', w5, hrun, hK5, hF5⟩ := (hK3.frm (S := fun _ => false) (Frm.of_below hb4 hs3) rfl (hb4.mono hs3)).append (Nat.le_refl _) (by simp; omega) 56 w3.heap.size (.slice Au bl cu) bs ⟨(k : Int) % 2, 1 - (k : Int) % 2, str bs⟩ (by unfold World.cell?; rw [hw4]; rfl) (hI3.below (hb4.mono hs3)) rfl (by omega) (by omega)
        have hP5 := (hP3.below hb4).frm hF5 (by decide) (by decide)
        have hB5 := (hB3.trans (hb4.mono hs3)).trans hF5.low
        have HRUN := Lib.hid hrun
        have HP5 := Lib.hid hP5
        have HK5 := Lib.hid hK5
        have HB5 := Lib.hid hB5
        have hb3 : b < w3.heap.size := by omega
        clear hrun hP5 hK5 hB5 hF5 hb4 hw4 hP3 hF3 hB3 hK3 hI3 CS HK HP
        go_wp2_with (at_builtin; refine wpList_append_ran rfl _ _ _ rfl rfl rfl HRUN.out ?_)
        go_roundw
        case rel => exact ⟨k + 1, ms ++ [⟨(k : Int) % 2, 1 - (k : Int) % 2, str bs⟩], by go_num, by omega, by omega, by rw [List.length_append]; simp; omega, HP5.out, HK5.out, HB5.out⟩
        case measure => simp [intOf]; omega
      · obtain ⟨bl, hbl'⟩ : ∃ bl, bs.length = bl := ⟨_, rfl⟩
        rw [hbl'] at hcu hbl hfit
        have CS := Lib.hid (send_long w.heap.size w1.heap.size 2 ms wr HP.out _ _ HA.out HB2.out Au bl cu (by omega) hbl)
        clear hbl'
        go_wp2_with fail
        refine CS.out.mono ?_
        rintro e w3 ⟨rfl, hB3⟩
        have HP3 := Lib.hid (HP.out.below hB3)
        have HK3 := Lib.hid (HK.out.frm (S := fun _ => false) (Frm.of_below hB3 hsr) rfl (hB3.mono hsr))
        have HB3 := Lib.hid (HBr.out.trans (hB3.mono hsr))
        clear hB3 CS HP HK
        go_wp2_with fail
        go_roundw
        case rel => exact ⟨k + 1, ms, by go_num, by omega, by omega, by omega, HP3.out, HK3.out, HB3.out⟩
        case measure => simp [intOf]; omega
    · have hkn : ¬ (k : Int) < (len : Int) ∨ ((k : Int) < (len : Int) ∧ ¬ (k : Int) < 40) := by omega
      have hlt' := Lib.hid hlt
      have hN : ms.length ≤ 40 := by omega
      clear hlt
      rcases hkn with hkn | ⟨hkn, hkn2⟩
      all_goals
        go_upto_if 54 with (fail)
        go_cut [7] (fun v wx => ∃ ms : List Msg, ms.length ≤ 41 ∧ Post wx w.heap.size w1.heap.size 2 ms ∧ KeptB w.heap.size wx w.heap.size v ms ∧ Below w.heap.size w wx)
        case first =>
          rcases Nat.eq_zero_or_pos ms.length with hz | hp
          · have hz2 : (ms.length : Int) ≤ 0 := by omega
            have hz3 : ¬ 0 < ms.length := by omega
            clear hz
            go_wp2_with fail
            go_meet
            exact ⟨ms, by omega, HP.out, HK.out, HBr.out⟩
          · have hp2 : 0 < (ms.length : Int) := by omega
            go_wp2_with fail
            obtain ⟨t, ht, hsz⟩ := place_mod z ms.length hp (by omega)
            rw [hsz]
            obtain ⟨m, hm⟩ : ∃ m, ms[t]? = some m := ⟨_, List.getElem?_eq_getElem ht⟩
            have HM := Lib.hid hm
            have htI : (t : Int) < (ms.length : Int) := by omega
            clear hsz hm
            refine (twice_calls w.heap.size w1.heap.size 2 ms wr HP.out hsr t m HM.out (by omega)).mono ?_
            rintro e w3 ⟨rfl, hP3, hF3⟩
            have hB3 := HBr.out.trans hF3.low
            have hs3 := hB3.size
            have hK3 := HK.out.frm hF3 (by decide) hF3.low
            have CL := Lib.hid (len_calls _ _ _ _ _ hP3)
            obtain ⟨g, u, bs, rfl, hg1, hg2, hgc, hIu, hms, hbl⟩ := hK3.cell HM.out hp
            obtain ⟨Au, cu, rfl⟩ := hIu.form
            obtain ⟨bl, hbl'⟩ : ∃ bl, bs.length = bl := ⟨_, rfl⟩
            have hw4 := heap_alloc_new w3 (.cells #[.slice Au bs.length cu] 32)
            have hb4 := (Below.refl w3.heap.size w3).alloc (Nat.le_refl _) (.cells #[.slice Au bs.length cu] 32)
            obtain ⟨A', c', w5, hrun, hK5, hF5⟩ := (hK3.frm (S := fun _ => false) (Frm.of_below hb4 hs3) rfl (hb4.mono hs3)).append (Nat.le_refl _) (by simp; omega) 56 w3.heap.size (.slice Au bs.length cu) bs m (by unfold World.cell?; rw [hw4]; rfl) (hIu.below (hb4.mono hs3)) hms hbl (by omega)
            have HP5 := Lib.hid ((hP3.below hb4).frm hF5 (by decide) (by decide))
            have HB5 := Lib.hid ((hB3.trans (hb4.mono hs3)).trans hF5.low)
            rw [hbl'] at hrun hgc
            have HRUN := Lib.hid hrun
            have HK5 := Lib.hid hK5
            have hlen2 : (ms ++ [m]).length = ms.length + 1 := by rw [List.length_append]; rfl
            rw [hlen2] at CL
            have hcast : ((ms.length + 1 : Nat) : Int) = (ms.length : Int) + 1 := by omega
            rw [hcast] at CL
            have HL2 := Lib.hid hlen2
            have hadd1 : IntKind.i64.wrap ((ms.length : Int) + 1) = (ms.length : Int) + 1 := IntWalk.i64_in _ (by omega)
            clear hrun hK5 hF5 hb4 hw4 hIu hK3 hF3 hP3 hB3 hbl' hlen2 hcast HK HP HBr
            go_wp2_with fail
            refine CL.out.mono ?_
            rintro e W ⟨rfl, rfl⟩
            go_wp2_with (at_builtin; refine wpList_append_ran rfl _ _ _ rfl rfl rfl HRUN.out ?_)
            go_meet
            exact ⟨ms ++ [m], by rw [HL2.out]; omega, HP5.out, HK5.out, HB5.out⟩
        case rest =>
          obtain ⟨ms2, hm2, hP2, hK2, hB2⟩ := hcut
          obtain ⟨A8, c8, rfl⟩ := hK2.form
          have HP2' := Lib.hid hP2
          have HK2' := Lib.hid hK2
          have HB2' := Lib.hid hB2
          clear hP2 hK2 hB2 HP HK HBr
          go_wp2_with fail
          go_loopw [10] (fun i wx => ∃ j : Nat, i = .int .i64 j ∧ j ≤ ms2.length ∧ Post wx w.heap.size w1.heap.size 2 (ms2.drop j) ∧ KeptB w.heap.size wx w.heap.size (.slice A8 ms2.length c8) ms2 ∧ Below w.heap.size w wx) (fun i _ => ms2.length - (intOf i).toNat)
          case atStart => exact ⟨0, rfl, Nat.zero_le _, HP2'.out, HK2'.out, HB2'.out⟩
          case round =>
            obtain ⟨j, rfl, hj, hP3, hK3, hB3⟩ := hrel
            have HP3 := Lib.hid hP3
            have HK3 := Lib.hid hK3
            have HB3 := Lib.hid hB3
            have hs3 := hB3.size
            clear hP3 hK3 hB3 HP2' HK2' HB2'
            by_cases hjl : j < ms2.length
            · obtain ⟨m, hm⟩ : ∃ m, ms2[j]? = some m := ⟨_, List.getElem?_eq_getElem hjl⟩
              have hsz : m.s.size ≤ 65536 := by
                obtain ⟨_, _, bs0, _, _, _, _, _, hms0, hbl0⟩ := HK3.out.cell hm (by omega)
                rw [hms0]; unfold str; show (bs0.map UInt8.ofNat).toArray.size ≤ _; simpa using hbl0
              have hm0 : (ms2.drop j)[0]? = some m := by rw [List.getElem?_drop, Nat.add_zero]; exact hm
              have hdr : (ms2.drop j).take 0 ++ (ms2.drop j).drop (0 + 1) = ms2.drop (j + 1) := by
                rw [List.take_zero, List.nil_append, List.drop_drop]
              have hct := take_calls w.heap.size w1.heap.size 2 (ms2.drop j) wr HP3.out hs3 0 m hm0 hsz
              rw [hdr] at hct
              have CT := Lib.hid hct
              have HM := Lib.hid hm
              clear hct hdr hm0 hsz hm
              go_wp2_with fail
              refine CT.out.mono ?_
              rintro e w4 ⟨v, rfl, hG, hP4, hF4, -⟩
              have hB4 := HB3.out.trans hF4.low
              have hs4 := hB4.size
              have hK4 := HK3.out.frm hF4 (by decide) hF4.low
              obtain ⟨w5, hw5⟩ : ∃ w5, w4.alloc (.cells #[.int .i64 m.src, .int .i64 m.dst, v] 34) = w5 := ⟨_, rfl⟩
              have hb5 : Below w4.heap.size w4 w5 := by rw [← hw5]; exact (Below.refl _ _).alloc (Nat.le_refl _) _
              have hr5 : Three w5 w4.heap.size (.int .i64 m.src) (.int .i64 m.dst) v 34 := by rw [← hw5]; exact heap_alloc_new w4 _
              have hG5 := hG.below hb5
              have hK5 := hK4.frm (S := fun _ => false) (Frm.of_below hb5 hs4) rfl (hb5.mono hs4)
              obtain ⟨g, u, bs, rfl, hg1, hg2, hgc, hIu, hms, hbl⟩ := hK5.cell HM.out (by omega)
              have cv1 := fun n => run_string_bytes (P := Try.prog) (w5.drewN n) Try.underlying32 Try.underlying5 Try.underlying9 (show Bytes w5.heap.size (w5.drewN n) _ _ from hG5.bytes)
              have cv2 := fun n => run_string_bytes (P := Try.prog) (w5.drewN n) Try.underlying32 Try.underlying5 Try.underlying9 (show Bytes w.heap.size (w5.drewN n) _ _ from hIu)
              rw [str_bytesOf] at cv1
              rw [← hms] at cv2
              obtain ⟨gb, gc, rfl, hgb, _⟩ := hG.own
              obtain ⟨Au, cu, rfl⟩ := hIu.form
              obtain ⟨r0, r1, r2, _⟩ := hr5.cells
              have HP5 := Lib.hid (hP4.below hb5)
              have HB5 := Lib.hid (hB4.trans (hb5.mono hs4))
              have HK5 := Lib.hid hK5
              obtain ⟨L, hL⟩ : ∃ L, (bytesOf m.s).length = L := ⟨_, rfl⟩
              obtain ⟨L2, hL2⟩ : ∃ L, bs.length = L := ⟨_, rfl⟩
              rw [hL] at cv1 r2 hw5 ⊢
              rw [hL2] at cv2 hgc
              have HW5 := Lib.hid hw5
              have hjI : (j : Int) < (ms2.length : Int) := by omega
              clear hG hP4 hF4 hB4 hK4 hw5 hb5 hr5 hG5 hK5 hIu hms hbl CT hL hL2
              go_wp2_with fail
              rw [HW5.out]
              go_quiet (fail)
              go_wp2_with fail
              go_roundw
              case rel => exact ⟨j + 1, by go_num, by omega, HP5.out, HK5.out, HB5.out.trans ⟨rfl, rfl, rfl, Nat.le_refl _, fun _ _ => rfl⟩⟩
              case measure => simp [intOf]; omega
            · obtain rfl : j = ms2.length := by omega
              have hnil : ms2.drop ms2.length = [] := by rw [List.drop_length]
              have hP4 := HP3.out
              rw [hnil] at hP4
              have CT := Lib.hid (take_none w.heap.size w1.heap.size 2 [] wr hP4 0 (by right; simp))
              have HP4 := Lib.hid hP4
              clear hnil hP4 HP3 HK3
              go_wp2_with fail
              refine CT.out.mono ?_
              rintro e w4 ⟨rfl, hB4⟩
              have CL := Lib.hid (len_calls _ _ _ _ _ (HP4.out.below hB4))
              have HB4 := Lib.hid (HB3.out.trans (hB4.mono hs3))
              clear hB4 CT HP4
              go_wp2_with fail
              refine CL.out.mono ?_
              rintro e W ⟨rfl, rfl⟩
              go_wp2_with fail
              go_ret
              exact ⟨rfl, HB4.out⟩

end Go.Proofs.Ytjcgkjjomiapoaa.Mail
