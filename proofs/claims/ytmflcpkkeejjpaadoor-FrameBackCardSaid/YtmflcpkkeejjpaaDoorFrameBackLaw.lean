/-
  The walk of the law FrameBack: whatever the payloads and the place at which their row is cut short, it returns true and nothing that lay has turned.
-/
import Derived.Test.YtmflcpkkeejjpaaDoorFrameRow
import Derived.Deep.DeepCutAuto
namespace Go.Proofs.YtmflcpkkeejjpaaDoor.Frame
open Go.RowKit Go.Shelf Go.Proofs.YtmflcpkkeejjpaaDoor.Law Go.Proofs.YtmflcpkkeejjpaaDoor.Crc

/-- A place up to a length. -/
theorem place_upto (z : Int) (len : Nat) (h1 : len ≤ 140737488351232) : ∃ s : Nat, s ≤ len ∧ wrap64 ((IntKind.u64.wrap z).tmod ((len : Int) + 1)) = (s : Int) := by
  have h2 : 0 ≤ IntKind.u64.wrap z := wrap_u64_nonneg z
  have h3 : (IntKind.u64.wrap z).tmod ((len : Int) + 1) = IntKind.u64.wrap z % ((len : Int) + 1) := Int.tmod_eq_emod_of_nonneg h2
  have h4 : 0 ≤ IntKind.u64.wrap z % ((len : Int) + 1) := Int.emod_nonneg _ (by omega)
  have h5 : IntKind.u64.wrap z % ((len : Int) + 1) < (len : Int) + 1 := Int.emod_lt_of_pos _ (by omega)
  refine ⟨(IntKind.u64.wrap z % ((len : Int) + 1)).toNat, by omega, ?_⟩
  rw [h3, IntWalk.wrap64_in _ (by omega)]
  omega

set_option maxRecDepth 100000 in
set_option maxHeartbeats 8000000 in
theorem frameBack_law (sv : Value) (pss : List (List Nat)) (z : Int) (w : World) (hT : Tab w) (hI : ByteRows w.heap.size w sv pss) :
    Calls Tryd.prog 6 #[sv, .int .i64 z] w fun e W' => e = .returned (.bool true) ∧ Below w.heap.size w W' := by
  obtain ⟨A, cap, rfl⟩ := hI.form
  obtain ⟨len, hlen⟩ : ∃ len, pss.length = len := ⟨_, rfl⟩
  rw [hlen] at hI ⊢
  have HI := Lib.hid hI
  have HL := Lib.hid hlen
  have HT := Lib.hid hT
  clear hI hlen hT
  go_enter Tryd.func6, Tryd.ntmps6
  go_wp2_with fail
  refine (known_calls w HT.out).mono ?_
  rintro e w1 ⟨rfl, hB1⟩
  have cR := row_calls (.slice A len cap) pss w1 (HT.out.below hB1) (HI.out.on hB1)
  have CR := Lib.hid cR
  clear cR
  go_wp2_with fail
  refine CR.out.mono ?_
  rintro e w2 (⟨_, rfl, B2⟩ | ⟨hsh, v, ev, rfl, hO, hE, B2⟩)
  · go_wp2
    go_ret
    exact ⟨rfl, hB1.trans (B2.mono hB1.size)⟩
  · have hB2 := hB1.trans (B2.mono hB1.size)
    obtain ⟨ps, hps⟩ : ∃ ps, pss.take 40 = ps := ⟨_, rfl⟩
    rw [hps] at hsh hO hE
    have hpl : ps.length ≤ 40 := by rw [← hps, List.length_take]; omega
    have hple : ps.length ≤ len := by rw [← hps, List.length_take, HL.out]; omega
    have hRl := rowN_le ps hsh
    obtain ⟨R, hR⟩ : ∃ R, rowN ps = R := ⟨_, rfl⟩
    rw [hR] at hO hRl
    have hbytes := hO.bytes
    obtain ⟨A2, c2, rfl⟩ := hbytes.form
    obtain ⟨rl, hrl⟩ : ∃ rl, R.length = rl := ⟨_, rfl⟩
    rw [hrl] at hO hRl hbytes ⊢
    have hcap := hbytes.capOk
    obtain ⟨s, hs, hsz⟩ := place_upto z rl (by omega)
    have hfront := hbytes.front s (by omega)
    obtain ⟨A3, c3, rfl⟩ := row_form hE
    obtain ⟨pl, hpl'⟩ : ∃ pl, ps.length = pl := ⟨_, rfl⟩
    rw [hpl'] at hE hpl hple hRl ⊢
    have hrlb : rl ≤ 5000000 := by omega
    have HPS := Lib.hid hps
    have HSH := Lib.hid hsh
    have HR := Lib.hid hR
    have HRL := Lib.hid hrl
    have HSZ := Lib.hid hsz
    have HE := Lib.hid hE
    have HPL := Lib.hid hpl'
    have HFR := Lib.hid hfront
    have hcapI : (rl : Int) ≤ (c2 : Int) := by omega
    have hsI : (s : Int) ≤ (rl : Int) := by omega
    have hrlI : (rl : Int) ≤ 5000000 := by omega
    clear hps hsh hR hrl hsz hE hpl' hfront hO hbytes CR
    go_upto_region 7 with fail
    rw [HSZ.out]
    have hcC := cut_calls (.slice A2 s c2) (R.take s) (by rw [List.length_take, HRL.out]; omega) w2 (HT.out.below hB2) HFR.out
    have CC := Lib.hid hcC
    clear hcC
    go_wp2_with fail
    refine CC.out.mono ?_
    rintro e w3 ⟨v3, ys, k3, rfl, hTo, hrow3, hfine3, B3⟩
    have hB3 := hB2.trans (B3.mono hB2.size)
    have hE3 : w3.ownsRow w1.heap.size 3 1 (.slice A3 pl c3) pl (endsV ps pl) := HE.out.kept (grown_of_below B3) (by cases A3 <;> simp [Value.ownBlock])
    have hrows := rows_of hrow3 hfine3
    obtain ⟨A4, c4, rfl⟩ := row_form hrow3
    have HROWS := Lib.hid hrows
    have HTo := Lib.hid hTo
    have HE3 := Lib.hid hE3
    clear CC hTo hrow3 hfine3 B3 hE3 hrows HE
    go_wp2_with fail
    go_loop [10] (fun nn => ∃ m : Nat, m ≤ pl ∧ nn = .int .i64 m ∧ (rowN (ps.take m)).length ≤ s) (fun nn => pl - (intOf nn).toNat)
    case atStart => exact ⟨0, Nat.zero_le _, rfl, by simp [rowN]⟩
    case round =>
      obtain ⟨m, hm, rfl, hms⟩ := hrel
      by_cases hgo : m < pl ∧ (rowN (ps.take (m + 1))).length ≤ s
      · obtain ⟨hlt, hle⟩ := hgo
        obtain ⟨g, rfl, hcs⟩ := ends_cells HE3.out (by omega)
        have hc := hcs m hlt
        have hmI : (m : Int) < (pl : Int) := by omega
        obtain ⟨en, hen⟩ : ∃ en, (rowN (ps.take (m + 1))).length = en := ⟨_, rfl⟩
        rw [hen] at hc hle
        have hleI : (en : Int) ≤ (s : Int) := by omega
        have HEN := Lib.hid hen
        clear hcs hen hms
        go_wp2
        go_round
        case rel => exact ⟨m + 1, by omega, by go_num, by rw [HEN.out]; exact hle⟩
        case measure => simp [intOf]; omega
      · have htold := told_short HSH.out s m (by rw [HPL.out]; exact hm) hms (by rw [HPL.out]; omega)
        rw [HR.out] at htold
        obtain ⟨hys, hk3⟩ := told_all HTo.out.1 HTo.out.2 htold.1 htold.2
        have hyl : ys.length = m := by
          have h := congrArg List.length hys
          rw [bytesOf_length, List.length_take, HPL.out] at h
          omega
        have HYS := Lib.hid hys
        rw [hyl]
        have htest : m = pl ∨ ∃ g, A3 = some ⟨g, 0, none⟩ ∧ ∃ en : Nat, m < pl ∧ w3.cell? ⟨g, m, none⟩ = some (.int .i64 (en : Nat)) ∧ s < en := by
          by_cases hlt : m < pl
          · obtain ⟨g, hg, hcs⟩ := ends_cells HE3.out (by omega)
            exact .inr ⟨g, hg, _, hlt, hcs m hlt, by omega⟩
          · exact .inl (by omega)
        have hlast : (m = 0 ∧ k3 = 0) ∨ ∃ g, A3 = some ⟨g, 0, none⟩ ∧ 0 < m ∧ w3.cell? ⟨g, m - 1, none⟩ = some (.int .i64 (k3 : Nat)) := by
          by_cases h0 : 0 < m
          · obtain ⟨g, hg, hcs⟩ := ends_cells HE3.out (by omega)
            have := hcs (m - 1) (by omega)
            rw [Nat.sub_add_cancel h0, ← hk3] at this
            exact .inr ⟨g, hg, h0, this⟩
          · obtain rfl : m = 0 := by omega
            exact .inl ⟨rfl, by rw [hk3]; simp [rowN]⟩
        have hget : ∀ i, i < m → (bytesOf ys).getD i [] = pss.getD i [] := by
          intro i hi
          rw [HYS.out, ← HPS.out]
          simp only [List.getD_eq_getElem?_getD]
          rw [List.getElem?_take, if_pos hi, List.getElem?_take, if_pos (by omega)]
        have HGET := Lib.hid hget
        have hbyl : (bytesOf ys).length = m := by rw [bytesOf_length]; exact hyl
        have hrows3 := HROWS.out
        rw [hyl] at hrows3
        have HR3 := Lib.hid hrows3
        have hmlen : m ≤ len := by omega
        clear hgo htold hys hk3 hms hget hrows3
        have HLAST := Lib.hid hlast
        clear hlast
        rcases htest with rfl | ⟨g, hA, en, hlt, hc, hse⟩
        · go_upto_region 11 with fail
          go_cut [75] (fun b wx => b = .bool false ∧ wx = w3)
          case first =>
            rcases HLAST.out with ⟨rfl, rfl⟩ | ⟨g', hA, h0, hl⟩
            · go_wp2_with fail
              go_meet
              exact ⟨rfl, rfl⟩
            · cases hA
              have h0I : 0 < (m : Int) := by omega
              have hm1 : (m : Int) - 1 = ((m - 1 : Nat) : Int) := by omega
              go_wp2_with fail
              go_meet
              exact ⟨rfl, rfl⟩
          case rest =>
            obtain ⟨rfl, rfl⟩ := hcut
            go_wp2_with fail
            go_loopw [11] (fun i wr => ∃ j : Nat, j ≤ m ∧ i = .int .i64 j ∧ Below wc.heap.size wc wr) (fun i _ => m - (intOf i).toNat)
            case atStart => exact ⟨0, Nat.zero_le _, rfl, Below.refl _ _⟩
            case round =>
              obtain ⟨j, hj, rfl, hBr⟩ := hrel
              by_cases hjm : j < m
              · obtain ⟨b1, o1, rfl, hb1, hc1⟩ := (HR3.out.below hBr).cells (by omega)
                obtain ⟨v1, hv1, hI1⟩ := hc1 j hjm
                rw [HGET.out j hjm] at hI1
                obtain ⟨b2, o2, rfl, hb2, hc2⟩ := (HI.out.below (hB3.trans (hBr.mono hB3.size))).cells (by omega)
                obtain ⟨v2, hv2, hI2⟩ := hc2 j (by omega)
                have cS := fun W' (h : W' = wr ∨ ∃ q, W' = wr.drewN q) => same_true v1 v2 (pss.getD j []) W' (n := wc.heap.size) (m := w.heap.size) (by rcases h with rfl | ⟨q, rfl⟩ <;> exact hI1) (by rcases h with rfl | ⟨q, rfl⟩ <;> exact hI2)
                obtain ⟨A5, c5, rfl⟩ := hI1.form
                obtain ⟨A6, c6, rfl⟩ := hI2.form
                obtain ⟨xl, hxl⟩ : ∃ xl, (pss.getD j []).length = xl := ⟨_, rfl⟩
                rw [hxl] at hv1 hv2 cS
                have CS := Lib.hid cS
                have hjI : (j : Int) < (m : Int) := by omega
                have hjL : (j : Int) < (len : Int) := by omega
                clear hc1 hc2 hI1 hI2 cS hxl
                go_wp2
                go_quiet ((go_at_call 13; exact Calls.quiet_of_same (CS.out _ (.inr ⟨_, rfl⟩))))
                go_wp2
                go_roundw
                case rel => exact ⟨j + 1, by omega, by go_num, below_drewN hBr _⟩
                case measure => simp [intOf]; omega
              · obtain rfl : j = m := by omega
                go_wp2
                go_ret
                exact ⟨rfl, hB3.trans (hBr.mono hB3.size)⟩
        · cases hA
          have hmI : (m : Int) < (pl : Int) := by omega
          have hseI : (s : Int) < (en : Int) := by omega
          go_upto_region 11 with fail
          go_cut [75] (fun b wx => b = .bool false ∧ wx = w3)
          case first =>
            rcases HLAST.out with ⟨rfl, rfl⟩ | ⟨g', hA, h0, hl⟩
            · go_wp2_with fail
              go_meet
              exact ⟨rfl, rfl⟩
            · cases hA
              have h0I : 0 < (m : Int) := by omega
              have hm1 : (m : Int) - 1 = ((m - 1 : Nat) : Int) := by omega
              go_wp2_with fail
              go_meet
              exact ⟨rfl, rfl⟩
          case rest =>
            obtain ⟨rfl, rfl⟩ := hcut
            go_wp2_with fail
            go_loopw [11] (fun i wr => ∃ j : Nat, j ≤ m ∧ i = .int .i64 j ∧ Below wc.heap.size wc wr) (fun i _ => m - (intOf i).toNat)
            case atStart => exact ⟨0, Nat.zero_le _, rfl, Below.refl _ _⟩
            case round =>
              obtain ⟨j, hj, rfl, hBr⟩ := hrel
              by_cases hjm : j < m
              · obtain ⟨b1, o1, rfl, hb1, hc1⟩ := (HR3.out.below hBr).cells (by omega)
                obtain ⟨v1, hv1, hI1⟩ := hc1 j hjm
                rw [HGET.out j hjm] at hI1
                obtain ⟨b2, o2, rfl, hb2, hc2⟩ := (HI.out.below (hB3.trans (hBr.mono hB3.size))).cells (by omega)
                obtain ⟨v2, hv2, hI2⟩ := hc2 j (by omega)
                have cS := fun W' (h : W' = wr ∨ ∃ q, W' = wr.drewN q) => same_true v1 v2 (pss.getD j []) W' (n := wc.heap.size) (m := w.heap.size) (by rcases h with rfl | ⟨q, rfl⟩ <;> exact hI1) (by rcases h with rfl | ⟨q, rfl⟩ <;> exact hI2)
                obtain ⟨A5, c5, rfl⟩ := hI1.form
                obtain ⟨A6, c6, rfl⟩ := hI2.form
                obtain ⟨xl, hxl⟩ : ∃ xl, (pss.getD j []).length = xl := ⟨_, rfl⟩
                rw [hxl] at hv1 hv2 cS
                have CS := Lib.hid cS
                have hjI : (j : Int) < (m : Int) := by omega
                have hjL : (j : Int) < (len : Int) := by omega
                clear hc1 hc2 hI1 hI2 cS hxl
                go_wp2
                go_quiet ((go_at_call 13; exact Calls.quiet_of_same (CS.out _ (.inr ⟨_, rfl⟩))))
                go_wp2
                go_roundw
                case rel => exact ⟨j + 1, by omega, by go_num, below_drewN hBr _⟩
                case measure => simp [intOf]; omega
              · obtain rfl : j = m := by omega
                go_wp2
                go_ret
                exact ⟨rfl, hB3.trans (hBr.mono hB3.size)⟩

end Go.Proofs.YtmflcpkkeejjpaaDoor.Frame
