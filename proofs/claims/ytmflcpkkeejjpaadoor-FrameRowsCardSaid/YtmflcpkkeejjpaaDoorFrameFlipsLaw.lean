/-
  The walk of the law FrameFlips: whatever the payloads, the place and the word, it returns true and nothing that lay has turned.
-/
import Derived.Test.YtmflcpkkeejjpaaDoorFrameRow
import Derived.Test.YtmflcpkkeejjpaaDoorFrameTurn
import Derived.Deep.DeepCutAuto
namespace Go.Proofs.YtmflcpkkeejjpaaDoor.Frame
open Go.RowKit Go.Shelf Go.Proofs.YtmflcpkkeejjpaaDoor.Law Go.Proofs.YtmflcpkkeejjpaaDoor.Crc

/-- A place below a length. -/
theorem place_in (z : Int) (len : Nat) (h0 : 0 < len) (h1 : len ≤ 140737488351232) : ∃ s : Nat, s < len ∧ wrap64 ((IntKind.u64.wrap z).tmod (len : Int)) = (s : Int) := by
  have h2 : 0 ≤ IntKind.u64.wrap z := wrap_u64_nonneg z
  have h3 : (IntKind.u64.wrap z).tmod (len : Int) = IntKind.u64.wrap z % (len : Int) := Int.tmod_eq_emod_of_nonneg h2
  have h4 : 0 ≤ IntKind.u64.wrap z % (len : Int) := Int.emod_nonneg _ (by omega)
  have h5 : IntKind.u64.wrap z % (len : Int) < (len : Int) := Int.emod_lt_of_pos _ (by omega)
  refine ⟨(IntKind.u64.wrap z % (len : Int)).toNat, by omega, ?_⟩
  rw [h3, IntWalk.wrap64_in _ (by omega)]
  omega

set_option maxRecDepth 100000 in
set_option maxHeartbeats 8000000 in
theorem frameFlips_law (sv : Value) (pss : List (List Nat)) (z : Int) (t : Nat) (ht : t < 4294967296) (w : World) (hT : Tab w) (hI : ByteRows w.heap.size w sv pss) :
    Calls Tryd.prog 7 #[sv, .int .i64 z, .int .u32 (t : Nat)] w fun e W' => e = .returned (.bool true) ∧ Below w.heap.size w W' := by
  obtain ⟨A, cap, rfl⟩ := hI.form
  obtain ⟨len, hlen⟩ : ∃ len, pss.length = len := ⟨_, rfl⟩
  rw [hlen] at hI ⊢
  have HI := Lib.hid hI
  have HL := Lib.hid hlen
  have HT := Lib.hid hT
  clear hI hlen hT
  go_enter Tryd.func7, Tryd.ntmps7
  go_wp2_with fail
  refine (known_calls w HT.out).mono ?_
  rintro e w1 ⟨rfl, hB1⟩
  have cR := row_calls (.slice A len cap) pss w1 (HT.out.below hB1) (HI.out.on hB1)
  have CR := Lib.hid cR
  clear cR
  go_wp2_with fail
  refine CR.out.mono ?_
  rintro e w2 (⟨_, rfl, B2⟩ | ⟨hsh, v, ev, rfl, hO, hE, B2⟩)
  · go_wp2
    go_ret
    exact ⟨rfl, hB1.trans (B2.mono hB1.size)⟩
  · have hB2 := hB1.trans (B2.mono hB1.size)
    obtain ⟨ps, hps⟩ : ∃ ps, pss.take 40 = ps := ⟨_, rfl⟩
    rw [hps] at hsh hO hE
    have hpl : ps.length ≤ 40 := by rw [← hps, List.length_take]; omega
    have hRl := rowN_le ps hsh
    obtain ⟨R, hR⟩ : ∃ R, rowN ps = R := ⟨_, rfl⟩
    rw [hR] at hO hRl
    have h256 := hO.2
    have hform := hO.form
    obtain ⟨A2, c2, rfl⟩ := hO.bytes.form
    obtain ⟨rl, hrl⟩ : ∃ rl, R.length = rl := ⟨_, rfl⟩
    rw [hrl] at hO hRl hform ⊢
    obtain ⟨A3, c3, rfl⟩ := row_form hE
    obtain ⟨pl, hpl'⟩ : ∃ pl, ps.length = pl := ⟨_, rfl⟩
    rw [hpl'] at hE hpl hRl ⊢
    have hrlb : rl ≤ 5000000 := by omega
    have HSH := Lib.hid hsh
    have HR := Lib.hid hR
    have HRL := Lib.hid hrl
    have HPL := Lib.hid hpl'
    have H256 := Lib.hid h256
    clear hps hsh hR hrl hpl' h256 CR
    by_cases h0 : rl = 0
    · subst h0
      clear hO hE hform
      go_wp2
      go_ret
      exact ⟨rfl, hB2⟩
    · obtain ⟨g, c2', hg, -, -⟩ := hform (by omega)
      simp only [Value.slice.injEq] at hg
      obtain ⟨rfl, -, rfl⟩ := hg
      obtain ⟨s, hs, hsz⟩ := place_in z rl (by omega) (by omega)
      have hl0 : ((rl : Int) == 0) = false := by rw [beq_eq_false_iff_ne]; omega
      have hrlI : (rl : Int) ≤ 5000000 := by omega
      have hrl0 : (rl : Int) ≠ 0 := by omega
      have HSZ := Lib.hid hsz
      have HO := Lib.hid hO
      have HE := Lib.hid hE
      clear hsz hO hE hform
      go_upto_region 7 with fail
      rw [HSZ.out]
      go_wp2_with fail
      go_loopw [10, 11] (fun f i wr => ∃ k : Nat, k ≤ 4 ∧ s + k ≤ rl ∧ i = .int .i64 k ∧ f = .int .i64 (firstZ s t k) ∧ OwnB wr w1.heap.size 5 (.slice (some ⟨g, 0, none⟩) rl c2) (turnL R s t k) ∧ wr.ownsRow w1.heap.size 3 1 (.slice A3 pl c3) pl (endsV ps pl) ∧ Below w1.heap.size w1 wr) (fun _ i _ => 4 - (intOf i).toNat)
      case atStart => exact ⟨0, by omega, by omega, rfl, rfl, HO.out, HE.out, B2⟩
      case round =>
        obtain ⟨k, hk, hsk, rfl, rfl, hO, hE, hB⟩ := hrel
        by_cases hgo : k < 4 ∧ s + k < rl
        · obtain ⟨hk4, hkb⟩ := hgo
          have hl := turnL_length R s t k
          rw [HRL.out] at hl
          obtain ⟨hcell, hfrz⟩ := hO.cell hl (s + k) hkb
          have hY := getD_lt' hO.2 (s + k)
          have hX : byteN t k < 256 := byteN_lt t k
          have hd32 : t / 2 ^ (8 * k) < 4294967296 := Nat.lt_of_le_of_lt (Nat.div_le_self _ _) ht
          have hnext : turnL R s t (k + 1) = (turnL R s t k).set (s + k) ((turnL R s t k).getD (s + k) 0 ^^^ byteN t k) := rfl
          have hfirst : firstZ s t (k + 1) = if byteN t k ≠ 0 ∧ firstZ s t k < 0 then ((s + k : Nat) : Int) else firstZ s t k := rfl
          have hfb : -1 ≤ firstZ s t k ∧ firstZ s t k ≤ 100000000 := by
            rcases firstZ_spec s t k with ⟨h1, -⟩ | ⟨f, h1, -, h2, -⟩ <;> omega
          have hst : ∀ x, x < 256 → OwnB _ _ _ _ _ := fun x hx => hO.store hl (s + k) x hx
          have hE2 : ∀ u, (wr.setCell ⟨g, s + k, none⟩ u).ownsRow w1.heap.size 3 1 (.slice A3 pl c3) pl (endsV ps pl) := fun u => by
            have hh := owns_other hE hO.1 (by decide)
            exact hE.kept (row := some g) ⟨rfl, rfl, rfl, by simp, fun j _ hj => Below.heap_setCell _ _ _ j (fun e => hj (by simpa using e))⟩ hh
          have hb2 : w1.heap.size ≤ g := (hO.1.lt g rfl).1
          have hdx : byteN t k = t / 2 ^ (8 * k) % 256 := rfl
          obtain ⟨F, hF⟩ : ∃ F, firstZ s t k = F := ⟨_, rfl⟩
          obtain ⟨F2, hF2⟩ : ∃ F, firstZ s t (k + 1) = F := ⟨_, rfl⟩
          rw [hF] at hfirst hfb ⊢
          rw [hF2] at hfirst
          obtain ⟨X, hXe⟩ : ∃ X, byteN t k = X := ⟨_, rfl⟩
          rw [hXe] at hX hnext hfirst hdx
          obtain ⟨Y, hYe⟩ : ∃ Y, (turnL R s t k).getD (s + k) 0 = Y := ⟨_, rfl⟩
          rw [hYe] at hY hnext hcell
          obtain ⟨d, hd⟩ : ∃ d, t / 2 ^ (8 * k) = d := ⟨_, rfl⟩
          rw [hd] at hd32 hdx
          obtain ⟨Z, hZ⟩ : ∃ Z, Y ^^^ X = Z := ⟨_, rfl⟩
          rw [hZ] at hnext
          have hZ8 : Z < 256 := hZ ▸ xor_lt8 hY hX
          have hxor : bits .xor .u8 (Y : Int) (X : Int) = (Z : Int) := by rw [u8_xor_nat _ _ hY hX, hZ]
          have hshr : (t : Int) / 2 ^ (8 * k) = (d : Int) := by rw [← hd]; simp
          have hdxI : (d : Int) % 256 = (X : Int) := by omega
          have hkI : (k : Int) < 4 := by omega
          have hskI : (s : Int) + (k : Int) < (rl : Int) := by omega
          have hsk0 : 0 ≤ (s : Int) + (k : Int) := by omega
          have HST := Lib.hid (hst Z hZ8)
          have HE2 := Lib.hid hE2
          have HN := Lib.hid hnext
          have HFI := Lib.hid hfirst
          have HF2 := Lib.hid hF2
          clear hst hE2 hnext hfirst hF2 hF hXe hYe hd hZ hl hO hE hdx
          have hBs : ∀ u, Below w1.heap.size w1 (wr.setCell ⟨g, s + k, none⟩ u) := fun u => hB.setCell (p := ⟨g, s + k, none⟩) hb2 u
          by_cases hX0 : X = 0
          · have hF2' : F2 = F := by rw [HFI.out, if_neg (fun h => h.1 hX0)]
            have hXb : ((X : Int) == 0) = true := by rw [beq_iff_eq]; omega
            have hXc : ((X : Int) != 0) = false := by rw [bne_eq_false_iff_eq]; omega
            have HF3 := Lib.hid hF2'
            clear hX0 hF2'
            go_wp2
            go_roundw
            case rel => exact ⟨k + 1, by omega, by omega, by go_num, by rw [HF2.out, HF3.out], by rw [HN.out]; exact HST.out, HE2.out _, hBs _⟩
            case measure => simp [intOf]; omega
          · have hXb : ((X : Int) == 0) = false := by rw [beq_eq_false_iff_ne]; omega
            have hXc : ((X : Int) != 0) = true := by rw [bne_iff_ne]; omega
            by_cases hF0 : F < 0
            · have hF2' : F2 = ((s + k : Nat) : Int) := by rw [HFI.out, if_pos ⟨hX0, hF0⟩]
              have HF3 := Lib.hid hF2'
              clear hX0 hF2'
              go_wp2
              go_roundw
              case rel => exact ⟨k + 1, by omega, by omega, by go_num, by rw [HF2.out, HF3.out]; simp, by rw [HN.out]; exact HST.out, HE2.out _, hBs _⟩
              case measure => simp [intOf]; omega
            · have hF2' : F2 = F := by rw [HFI.out, if_neg (fun h => hF0 h.2)]
              have HF3 := Lib.hid hF2'
              have hF1 : 0 ≤ F := by omega
              clear hX0 hF2' hF0
              go_wp2
              go_roundw
              case rel => exact ⟨k + 1, by omega, by omega, by go_num, by rw [HF2.out, HF3.out], by rw [HN.out]; exact HST.out, HE2.out _, hBs _⟩
              case measure => simp [intOf]; omega
        · have hTu := turnL_turned R s t k (by rw [HRL.out]; exact hsk)
          have hsp := firstZ_spec s t k
          have hcl := turnL_length R s t k
          rw [HRL.out] at hcl
          obtain ⟨c, hc⟩ : ∃ c, turnL R s t k = c := ⟨_, rfl⟩
          rw [hc] at hO hTu hcl
          obtain ⟨F, hF⟩ : ∃ F, firstZ s t k = F := ⟨_, rfl⟩
          rw [hF] at hsp ⊢
          have hBr := hB1.trans (hB.mono hB1.size)
          have hbytes := hO.bytes
          have hc256 := hO.2
          have HTu := Lib.hid hTu
          have HSP := Lib.hid hsp
          have HCL := Lib.hid hcl
          have HBY := Lib.hid hbytes
          have HC := Lib.hid hc256
          have HEr := Lib.hid hE
          clear hTu hsp hcl hc hF hO hbytes hc256 hE
          go_upto_region 9 with fail
          go_cut [48] (fun b wx => b = .bool false ∧ wx = wr)
          case first =>
            by_cases hk4 : k = 4
            · subst hk4
              go_wp2_with fail
              go_meet
              exact ⟨rfl, rfl⟩
            · have hkI : (k : Int) < 4 := by omega
              have hskI : (rl : Int) ≤ (s : Int) + (k : Int) := by omega
              go_wp2_with fail
              go_meet
              exact ⟨congrArg Value.bool (decide_eq_false (by omega)), rfl⟩
          case rest =>
            obtain ⟨rfl, rfl⟩ := hcut
            have cC := cut_calls (.slice (some ⟨g, 0, none⟩) rl c2) c (by rw [HCL.out]; omega) wc (HT.out.below hBr) HBY.out
            have CC := Lib.hid cC
            clear cC
            go_wp2_with fail
            refine CC.out.mono ?_
            rintro e w3 ⟨v3, ys, k3, rfl, hTo, hrow3, -, B3⟩
            have hB3 := hBr.trans (B3.mono hBr.size)
            have hE3 : w3.ownsRow w1.heap.size 3 1 (.slice A3 pl c3) pl (endsV ps pl) := HEr.out.kept (grown_of_below B3) (by cases A3 <;> simp [Value.ownBlock])
            obtain ⟨A4, c4, rfl⟩ := row_form hrow3
            have HTo := Lib.hid hTo
            have HE3 := Lib.hid hE3
            clear CC hTo hrow3 B3 hE3
            have hTu : Turned (rowN ps) c s t k := by rw [HR.out]; exact HTu.out
            rcases HSP.out with ⟨hF1, hz⟩ | ⟨f, hF1, haf, hfk, hfx, hfz⟩
            · have hcR := turned_none hTu hz
              have htw := told_whole HSH.out
              rw [← hcR] at htw
              obtain ⟨hys, hk3⟩ := told_all HTo.out.1 HTo.out.2 htw.1 htw.2
              have hyl : ys.length = pl := by
                have h := congrArg List.length hys
                rwa [bytesOf_length, HPL.out] at h
              rw [HCL.out] at hk3
              have hFI : F < 0 := by omega
              subst hk3
              rw [hyl]
              clear hTu hcR htw hys hyl hF1 hz
              go_wp2
              go_ret
              exact ⟨rfl, hB3⟩
            · subst hF1
              have htu := fun (m : Nat) (hm : m < pl) (h1 : (rowN (ps.take m)).length ≤ f) (h2 : f < (rowN (ps.take (m + 1))).length) =>
                told_turned (m := m) HSH.out (by rw [HR.out]; exact H256.out) HC.out hTu hk haf hfk hfz hfx (by rw [HPL.out]; exact hm) h1 h2
              have hRall : (rowN (ps.take pl)).length = rl := by
                rw [List.take_of_length_le (by rw [HPL.out]; exact Nat.le_refl _), HR.out, HRL.out]
              have hfrl : f < rl := by omega
              have HTU := Lib.hid htu
              have HRALL := Lib.hid hRall
              clear hTu htu hRall hfx hfz
              have hfI : 0 ≤ (f : Int) := by omega
              go_wp2_with fail
              go_loop [15, 16] (fun nn bg => ∃ m : Nat, m < pl ∧ nn = .int .i64 m ∧ bg = .int .i64 ((rowN (ps.take m)).length : Nat) ∧ (rowN (ps.take m)).length ≤ f) (fun nn _ => pl - (intOf nn).toNat)
              case atStart =>
                refine ⟨0, ?_, rfl, by simp [rowN], by simp [rowN]⟩
                omega
              case round =>
                obtain ⟨m, hm, rfl, rfl, hmf⟩ := hrel
                obtain ⟨g2, rfl, hcs⟩ := ends_cells HE3.out (by omega)
                have hc := hcs m hm
                have hmI : (m : Int) < (pl : Int) := by omega
                by_cases hle : (rowN (ps.take (m + 1))).length ≤ f
                · have hm1 : m + 1 < pl := by
                    refine Nat.lt_of_le_of_ne hm fun e => ?_
                    rw [e, HRALL.out] at hle
                    omega
                  obtain ⟨en, hen⟩ : ∃ en, (rowN (ps.take (m + 1))).length = en := ⟨_, rfl⟩
                  rw [hen] at hc hle
                  have hleI : (en : Int) ≤ (f : Int) := by omega
                  have HEN := Lib.hid hen
                  clear hcs hen hmf
                  go_wp2
                  go_round
                  case rel => exact ⟨m + 1, hm1, by go_num, by rw [HEN.out], by rw [HEN.out]; exact hle⟩
                  case measure => simp [intOf]; omega
                · have htd := HTU.out m hm hmf (by omega)
                  obtain ⟨hys, hk3⟩ := told_all HTo.out.1 HTo.out.2 htd.1 htd.2
                  have hyl : ys.length = m := by
                    have h := congrArg List.length hys
                    rw [bytesOf_length, List.length_take, HPL.out] at h
                    omega
                  rw [← hk3]
                  rw [hyl]
                  obtain ⟨en, hen⟩ : ∃ en, (rowN (ps.take (m + 1))).length = en := ⟨_, rfl⟩
                  rw [hen] at hc hle
                  have hleI : (f : Int) < (en : Int) := by omega
                  clear hcs hen hmf hle htd hys hk3 hyl
                  go_wp2
                  go_ret
                  exact ⟨rfl, hB3⟩

end Go.Proofs.YtmflcpkkeejjpaaDoor.Frame
