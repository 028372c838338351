/-
  Put together out of texts of one chain: what they hold stands ahead of each.
-/
import Derived.Test.YtmegiilkcidanaaGDiskCopies11
import Derived.Lib.SlBytesConst
import Derived.Test.YtmegiilkcidanaaGDiskCopies15
import Derived.Deep.QuietTactic
import Derived.BigQuiet
import Derived.WalkSmall
import Derived.Test.YtmegiilkcidanaaGDiskCopies16
import Derived.Test.YtmegiilkcidanaaGDiskCopies17
/-
  What the statements of layer 4 call besides: the chapter's example.
-/
namespace Go.Proofs.Ytmegiilkcidanaa.Disk
open Go Go.RowKit Go.Lib Go.Proofs.Ytmegiilkcidanaa.Law

def nameA : ByteArray := ⟨#[97]⟩
theorem short_a : Short nameA := by show nameA.size ≤ maxLen; decide

/-- The example's disk. -/
def exD : DS := (((((DS.fresh 100).write nameA (0 : Nat) (str [120, 121, 122])).sync nameA).write nameA (1 : Nat) (str [49, 50])).crash [1])

/-- Bytes that a call has just made. -/
theorem bytes_made (w : World) (bs : List Nat) (h : ∀ x ∈ bs, x < 256) (m : Nat × Nat) : Bytes (w.alloc (.cells (vals bs).toArray 5 m)).heap.size (w.alloc (.cells (vals bs).toArray 5 m)) (.slice (some ⟨w.heap.size, 0, none⟩) bs.length bs.length) bs :=
  ⟨_, _, rfl, Nat.le_refl _, (fun h => by cases h), h, fun _ => ⟨w.heap.size, 0, rfl, by simp, fun j hj => by
    rw [World.cell?_alloc_mark]
    have := vals_get bs j hj
    simpa using this⟩⟩

set_option maxRecDepth 100000 in
set_option maxHeartbeats 4000000 in
theorem known_law (w : World) : Calls Try.prog 8 #[] w fun e W => e = .returned (.bool true) ∧ Below w.heap.size w W := by
  have kc := fun (w : World) (C : Array Value) (n c : Nat) => Lib.run_convert_bytes_const (P := Try.prog) w 34 5 C n c Try.underlying34 Try.underlying5
  go_enter Try.func8, Try.ntmps8
  go_wp2_with fail
  refine (new_dk 100 (by decide) w w (Below.refl _ _)).mono ?_
  rintro e w1 ⟨db, rfl, hD⟩
  have HD := Lib.hid hD
  clear hD
  go_wp2_with fail
  have B1 : Bytes (w1.alloc (.cells #[.int .u8 120, .int .u8 121, .int .u8 122] 5 (3, 4))).heap.size (w1.alloc (.cells #[.int .u8 120, .int .u8 121, .int .u8 122] 5 (3, 4))) (.slice (some ⟨w1.heap.size, 0, none⟩) 3 3) [120, 121, 122] := bytes_made w1 [120, 121, 122] (by decide) (3, 4)
  have hc := (HD.out.below ((Below.refl _ _).alloc (Nat.le_refl _) (.cells #[.int .u8 120, .int .u8 121, .int .u8 122] 5 (3, 4)))).write (by decide) nameA (by decide) 0 (by decide) _ [120, 121, 122] (by decide) B1
  have e1 : (DS.fresh 100).writeN nameA 0 ([120, 121, 122] : List Nat).length = 0 := by decide +kernel
  rw [e1] at hc
  refine hc.mono ?_
  clear hc e1 B1 HD
  rintro e w2 ⟨rfl, hD⟩
  have HD := Lib.hid hD
  clear hD
  go_wp2_with fail
  have hc := HD.out.sync nameA (by decide)
  have e1 : ((DS.fresh 100).write nameA 0 (str [120, 121, 122])).syncN nameA = 0 := by decide +kernel
  rw [e1] at hc
  refine hc.mono ?_
  clear hc e1 HD
  rintro e w3 ⟨rfl, hD⟩
  have HD := Lib.hid hD
  clear hD
  go_wp2_with fail
  have B1 : Bytes (w3.alloc (.cells #[.int .u8 49, .int .u8 50] 5 (2, 3))).heap.size (w3.alloc (.cells #[.int .u8 49, .int .u8 50] 5 (2, 3))) (.slice (some ⟨w3.heap.size, 0, none⟩) 2 2) [49, 50] := bytes_made w3 [49, 50] (by decide) (2, 3)
  have hc := (HD.out.below ((Below.refl _ _).alloc (Nat.le_refl _) (.cells #[.int .u8 49, .int .u8 50] 5 (2, 3)))).write (by decide +kernel) nameA (by decide) 1 (by decide) _ [49, 50] (by decide) B1
  have e1 : (((DS.fresh 100).write nameA 0 (str [120, 121, 122])).sync nameA).writeN nameA 1 ([49, 50] : List Nat).length = 0 := by decide +kernel
  rw [e1] at hc
  refine hc.mono ?_
  clear hc e1 B1 HD
  rintro e w4 ⟨rfl, hD⟩
  have HD := Lib.hid hD
  clear hD
  go_wp2_with fail
  have hp : Ints (fun b => b < (w4.alloc (.cells #[.int .i64 1] 3)).heap.size ∧ (b < w.heap.size ∨ w4.heap.size ≤ b)) (w4.alloc (.cells #[.int .i64 1] 3)) (.slice (some ⟨w4.heap.size, 0, none⟩) 1 1) [1] :=
    ⟨_, 1, rfl, Nat.le_refl _, fun _ => ⟨w4.heap.size, 0, rfl, ⟨by simp, .inr (Nat.le_refl _)⟩, fun j hj => by
      obtain rfl : j = 0 := by simp at hj; omega
      simp⟩⟩
  have hc := HD.out.crash ((Below.refl _ _).alloc (Nat.le_refl _) (.cells #[.int .i64 1] 3)) (by decide +kernel) _ [1] hp
  refine hc.mono ?_
  clear hc hp HD
  rintro e w5 ⟨rfl, hD⟩
  have HD : Hid (Dk w db exD w5) := Lib.hid hD
  clear hD
  go_wp2_with fail
  refine (HD.out.read nameA short_a).mono ?_
  have e1 : exD.now nameA = some [120, 49, 122] := by decide +kernel
  rw [e1]
  rintro e w6 ⟨⟨v, rfl, hO, hB⟩, hD6⟩
  have hO : OwnB w6 w5.heap.size 5 v [120, 49, 122] := hO
  have hcv := run_string_bytes (P := Try.prog) w6 Try.underlying34 Try.underlying5 Try.underlying9 hO.bytes
  have hst : str [120, 49, 122] = ⟨#[120, 49, 122]⟩ := by decide
  rw [hst] at hcv
  obtain ⟨A, c, hv⟩ := hO.bytes.form
  have hv : v = .slice A 3 c := hv
  subst hv
  have CP := Lib.hid (hD6.pending (by decide +kernel))
  have e2 : exD.chs.length = 0 := by decide +kernel
  rw [e2] at CP
  clear hO hB hD6 HD e1 e2 hst
  go_wp2_with fail
  refine CP.out.mono ?_
  rintro e w7 ⟨rfl, hD7⟩
  have hL := hD7.low
  clear hD7 CP
  go_wp2_with fail
  go_ret
  exact ⟨rfl, hL⟩

end Go.Proofs.Ytmegiilkcidanaa.Disk

/-
  The walk of the law DiskStands: whatever the scripts, the name and the picks, it returns true and nothing that lay has turned.
-/
namespace Go.Proofs.Ytmegiilkcidanaa.Disk
open Go Go.RowKit Go.Lib Go.Proofs.Ytmegiilkcidanaa.Law

/-- The parts of a script's step, at the world at hand. -/
theorem step_cells {w W : World} {b off k : Nat} {s : Step} {dv pv : Value} (hb : b < w.heap.size) (hB : Below w.heap.size w W) (h : StepAt w b (off + k * 5) s dv pv) : StepAt W b (off + k * 5) s dv pv := by
  obtain ⟨d0, d1, d2, d3, d4⟩ := h
  exact ⟨(hB.cell (p := ⟨b, off + k * 5, none⟩) hb).trans d0, (hB.cell (p := ⟨b, off + k * 5 + 1, none⟩) hb).trans d1, (hB.cell (p := ⟨b, off + k * 5 + 2, none⟩) hb).trans d2, (hB.cell (p := ⟨b, off + k * 5 + 3, none⟩) hb).trans d3, (hB.cell (p := ⟨b, off + k * 5 + 4, none⟩) hb).trans d4⟩

/-- The file stands while others are turned. -/
def Second (w : World) (db : Nat) (name : ByteArray) (v : Option (List Nat)) (Fr : Nat → Prop) (W0 : World) (k : Nat) (W : World) : Prop := ∃ D, Dx Fr w db D W ∧ D.made ≤ 100 + k ∧ Stands name v D ∧ SameOn Fr W0 W

set_option maxRecDepth 100000 in
set_option maxHeartbeats 8000000 in
theorem diskStands_law (sv : Value) (name : ByteArray) (l1 : List Step) (mv : Value) (l2 : List Step) (pv : Value) (picks : List Int) (w : World) (hname : name.size ≤ maxLen) (h1 : Steps w.heap.size w sv l1) (hl1 : l1.length ≤ maxLen) (h2 : Steps w.heap.size w mv l2) (hl2 : l2.length ≤ maxLen) (hP : Ints (fun b => b < w.heap.size) w pv picks) :
    Calls Try.prog 4 #[.agg #[sv, .string name], mv, pv] w fun e W' => e = .returned (.bool true) ∧ Below w.heap.size w W' := by
  simp only [maxLen] at hl1 hl2
  obtain ⟨A1, cap1, rfl, hlc1, hat1⟩ := h1
  obtain ⟨A2, cap2, rfl, hlc2, hat2⟩ := h2
  obtain ⟨PA, pc, rfl, hpc⟩ := id hP
  obtain ⟨len1, hlen1⟩ : ∃ n, l1.length = n := ⟨_, rfl⟩
  obtain ⟨len2, hlen2⟩ : ∃ n, l2.length = n := ⟨_, rfl⟩
  obtain ⟨pl, hpl⟩ : ∃ n, picks.length = n := ⟨_, rfl⟩
  have HL1 := Lib.hid hlen1
  have HL2 := Lib.hid hlen2
  rw [hlen1] at hl1 hlc1 hat1 ⊢
  rw [hlen2] at hl2 hlc2 hat2 ⊢
  rw [hpl] at hP ⊢
  have HC1 := Lib.hid hat1
  have HC2 := Lib.hid hat2
  have HP := Lib.hid hP
  have HNM := Lib.hid hname
  clear hlen1 hlen2 hpl hat1 hat2 hP hpc hname
  obtain ⟨w0, hw0⟩ : ∃ w0, w.alloc (.cells #[.slice A1 len1 cap1, .string name] 41) = w0 := ⟨_, rfl⟩
  have hb0 : Below w.heap.size w w0 := by rw [← hw0]; exact (Below.refl _ _).alloc (Nat.le_refl _) _
  have hx0 : w0.heap[w.heap.size]? = some (.cells #[.slice A1 len1 cap1, .string name] 41 (0, 0)) := by rw [← hw0]; simp only [World.alloc, Array.getElem?_push_size]
  have hlt0 : w.heap.size < w0.heap.size := (Array.getElem?_eq_some_iff.1 hx0).1
  have CK := Lib.hid (known_law w0)
  have HW0 := Lib.hid hw0
  have HX0 := Lib.hid hx0
  have HB0 := Lib.hid hb0
  clear hw0 hx0 hb0
  go_enter Try.func4, Try.ntmps4
  go_upto_region 1 with fail
  rw [HW0.out]
  go_wp2_with fail
  refine CK.out.mono ?_
  rintro e w1 ⟨rfl, hB1⟩
  have hx1 := (hB1.block _ hlt0).trans HX0.out
  have g0 : w1.cell? ⟨w.heap.size, 0, none⟩ = some (.slice A1 len1 cap1) := by simp [World.cell?, hx1]
  have g1 : w1.cell? ⟨w.heap.size, 1, none⟩ = some (.string name) := by simp [World.cell?, hx1]
  have HB1 := Lib.hid (HB0.out.trans (hB1.mono HB0.out.size))
  clear hB1 hx1 CK
  go_wp2_with fail
  go_quiet (fail)
  have HB2 := Lib.hid (below_drewN (m := nq) HB1.out)
  clear g0 g1
  generalize w1.drewN nq = w2 at HB2 ⊢
  go_wp2_with fail
  refine (new_dk 100000 (by decide) w _ HB2.out).mono ?_
  rintro e w3 ⟨db, rfl, hD⟩
  have HD := Lib.hid (Dx.of hD)
  clear hD
  go_wp2_with fail
  go_loopw [11] (fun i wr => ∃ k : Nat, i = .int .i64 k ∧ k ≤ len1 ∧ k ≤ 100 ∧ Hid (∃ D, Dx (fun _ => False) w db D wr ∧ D.made ≤ k)) (fun i _ => 100 - (intOf i).toNat)
  case atStart => exact ⟨0, rfl, Nat.zero_le _, Nat.zero_le _, Lib.hid ⟨_, HD.out, Nat.le_refl _⟩⟩
  case round =>
    obtain ⟨k, rfl, hkl, hk100, HS⟩ := hrel
    by_cases hlt : k < len1 ∧ k < 100
    · obtain ⟨hlt1, hlt2⟩ := hlt
      obtain ⟨s, hs⟩ : ∃ s, l1[k]? = some s := ⟨_, List.getElem?_eq_getElem (by rw [HL1.out]; exact hlt1)⟩
      obtain ⟨b, off, rfl, hbw, hat⟩ := HC1.out (by omega)
      obtain ⟨hfit, dv, pv', hcell, hdv, hpv⟩ := hat k s hs
      obtain ⟨D, hDx, hmade⟩ := HS.out
      obtain ⟨d0, d1, d2, d3, d4⟩ := step_cells hbw hDx.low hcell
      have CS := step_fresh hDx (by omega) s hfit dv pv' hdv hpv
      have hbr : b < wr.heap.size := Nat.lt_of_lt_of_le hbw hDx.low.size
      have hkI : (k : Int) < (len1 : Int) := by omega
      have hkI2 : (k : Int) < 100 := by omega
      have hmd := s.made_le D
      have HMD : Hid ((s.on D).made ≤ k + 1) := Lib.hid (by omega)
      unfold stepV at CS
      have CSH := Lib.hid CS
      clear hat hs hcell hdv hpv hDx hmade CS hmd hfit HS
      go_wp2_with fail
      refine CSH.out.mono ?_
      rintro e w5 ⟨t, rfl, hL⟩
      have HS2 : Hid (∃ D, Dx (fun _ => False) w db D w5 ∧ D.made ≤ k + 1) := Lib.hid ⟨_, hL.1, HMD.out⟩
      clear hL CSH HMD
      go_wp2_with fail
      go_roundw
      case rel => exact ⟨k + 1, by go_num, by omega, by omega, HS2⟩
      case measure => simp [intOf]; omega
    · obtain ⟨D, hDx, hmade⟩ := HS.out
      have hbr : ¬ (k : Int) < (len1 : Int) ∨ ((k : Int) < (len1 : Int) ∧ ¬ (k : Int) < 100) := by omega
      have CF := Lib.hid (hDx.fail false)
      have HMD : Hid ((D.fail false).made ≤ 100) := Lib.hid (show D.made ≤ 100 by omega)
      obtain ⟨D1, hD1⟩ : ∃ D1, D.fail false = D1 := ⟨_, rfl⟩
      rw [hD1] at CF HMD
      clear hDx hmade hlt hD1 HS HC1 HL1 hlc1
      rcases hbr with hx | ⟨hx, hy⟩
      all_goals
        go_wp2_with fail
        refine CF.out.mono ?_
        rintro e w5 ⟨rfl, h1, _⟩
        have CY := Lib.hid (h1.sync name (by have := HNM.out; simp only [maxLen] at this; omega))
        obtain ⟨n, hn⟩ : ∃ n, D1.syncN name = n := ⟨_, rfl⟩
        rw [hn] at CY
        have HN := Lib.hid hn
        clear h1 hn CF
        go_wp2_with fail
        refine CY.out.mono ?_
        rintro e w6 ⟨rfl, h2, _⟩
        have H2 := Lib.hid h2
        clear h2 CY
        by_cases hn0 : n = 0
        · subst hn0
          have hst := Stands.start HN.out
          have hmd2 : (D1.sync name).made ≤ 100 := by
            have e : (D1.sync name).made = D1.made := by unfold DS.sync; split <;> rfl
            rw [e]; exact HMD.out
          obtain ⟨D2, hD2⟩ : ∃ D2, D1.sync name = D2 := ⟨_, rfl⟩
          rw [hD2] at hst H2 hmd2
          obtain ⟨v, hv⟩ : ∃ v, D1.now name = v := ⟨_, rfl⟩
          rw [hv] at hst
          have CR := H2.out.read name HNM.out
          rw [hst.now] at CR
          have CR := Lib.hid CR
          have HST := Lib.hid hst
          have HMD2 := Lib.hid hmd2
          clear hst hmd2 hD2 hv HN HMD
          go_wp2_with fail
          refine CR.out.mono ?_
          rintro e w7 ⟨was, rfl, hO, hB7⟩
          have HFR := Lib.hid (H2.out.add hB7)
          have HBUF := Lib.hid (Buf.of_own hO)
          have h70 : Second w db name v (fun k => False ∨ (w6.heap.size ≤ k ∧ k < w7.heap.size)) w7 0 w7 := ⟨D2, HFR.out, HMD2.out, HST.out, fun _ _ => rfl, Nat.le_refl _⟩
          have H70 := Lib.hid h70
          obtain ⟨wA, wc, rfl⟩ := hO.bytes.form
          clear hO hB7 CR H2 h70
          go_wp2_with fail
          go_loopw [14] (fun i wr => ∃ k : Nat, i = .int .i64 k ∧ k ≤ len2 ∧ k ≤ 100 ∧ Hid (Second w db name v (fun k => False ∨ (w6.heap.size ≤ k ∧ k < w7.heap.size)) w7 k wr)) (fun i _ => 100 - (intOf i).toNat)
          case atStart => exact ⟨0, rfl, Nat.zero_le _, Nat.zero_le _, H70⟩
          case round =>
            obtain ⟨k2, rfl, hkl2, hk2100, HS⟩ := hrel
            by_cases hlt : k2 < len2 ∧ k2 < 100
            · obtain ⟨hlt1, hlt2⟩ := hlt
              obtain ⟨s, hs⟩ : ∃ s, l2[k2]? = some s := ⟨_, List.getElem?_eq_getElem (by rw [HL2.out]; exact hlt1)⟩
              obtain ⟨b, off, rfl, hbw, hat⟩ := HC2.out (by omega)
              obtain ⟨hfit, dv, pv', hcell, hdv, hpv⟩ := hat k2 s hs
              obtain ⟨D, hDx, hmade, hst, hso⟩ := HS.out
              obtain ⟨d0, d1, d2, d3, d4⟩ := step_cells hbw hDx.low hcell
              have CS := step_fresh hDx (by omega) s hfit dv pv' hdv hpv
              have hbr : b < wr.heap.size := Nat.lt_of_lt_of_le hbw hDx.low.size
              have hkI : (k2 : Int) < (len2 : Int) := by omega
              have hkI2 : (k2 : Int) < 100 := by omega
              have hmd := s.made_le D
              have HGO : Hid ((s.name ≠ name ∨ 3 < s.kind) → ∀ W', Left (fun k => False ∨ (w6.heap.size ≤ k ∧ k < w7.heap.size)) wr w db (s.on D) W' → Second w db name v (fun k => False ∨ (w6.heap.size ≤ k ∧ k < w7.heap.size)) w7 (k2 + 1) W') := Lib.hid fun hc W' hL => ⟨_, hL.1, by omega, hst.step s hc, hso.trans hL.2⟩
              have HST : Hid (Second w db name v (fun k => False ∨ (w6.heap.size ≤ k ∧ k < w7.heap.size)) w7 (k2 + 1) wr) := Lib.hid ⟨_, hDx, by omega, hst, hso⟩
              unfold stepV at CS
              have CSH := Lib.hid CS
              clear hat hs hcell hdv hpv hDx hmade CS hmd hfit HS hst hso
              by_cases hnm : s.name = name
              · have hc : (name.toList == name.toList) = true := by simp
                rw [hnm] at d1
                by_cases hk3 : 3 < s.kind
                · rw [hnm] at CSH
                  have HGO2 := Lib.hid (HGO.out (.inr hk3))
                  clear HGO HST hnm
                  go_wp2_with fail
                  refine CSH.out.mono ?_
                  rintro e w8 ⟨t, rfl, hL⟩
                  have HS2 := Lib.hid (HGO2.out w8 hL)
                  clear hL CSH HGO2
                  go_wp2_with fail
                  go_roundw
                  case rel => exact ⟨k2 + 1, by go_num, by omega, by omega, HS2⟩
                  case measure => simp [intOf]; omega
                · clear HGO hnm CSH
                  go_wp2_with fail
                  go_roundw
                  case rel => exact ⟨k2 + 1, by go_num, by omega, by omega, HST⟩
                  case measure => simp [intOf]; omega
              · have hc : (s.name.toList == name.toList) = false := by
                  rw [beq_eq_false_iff_ne]
                  intro h0
                  apply hnm
                  rw [Lib.toList_data, Lib.toList_data] at h0
                  exact ByteArray.ext (Array.toList_inj.1 h0)
                have HGO2 := Lib.hid (HGO.out (.inl hnm))
                clear HGO HST hnm
                go_wp2_with fail
                refine CSH.out.mono ?_
                rintro e w8 ⟨t, rfl, hL⟩
                have HS2 := Lib.hid (HGO2.out w8 hL)
                clear hL CSH HGO2
                go_wp2_with fail
                go_roundw
                case rel => exact ⟨k2 + 1, by go_num, by omega, by omega, HS2⟩
                case measure => simp [intOf]; omega
            · obtain ⟨D, hDx, hmade, hst, hso⟩ := HS.out
              have hbr : ¬ (k2 : Int) < (len2 : Int) ∨ ((k2 : Int) < (len2 : Int) ∧ ¬ (k2 : Int) < 100) := by omega
              have CC := Lib.hid (hDx.crash_old (by omega) (.slice PA pl pc) picks (HP.out.at fun b hb => hDx.low.block b hb))
              have HST := Lib.hid (hst.crash picks)
              have HSO := Lib.hid hso
              obtain ⟨D3, hD3⟩ : ∃ D3, D.crash picks = D3 := ⟨_, rfl⟩
              rw [hD3] at CC HST
              clear hDx hmade hlt hst hso hD3 HS HC2 HL2 hlc2
              rcases hbr with hx2 | ⟨hx2, hy2⟩
              all_goals
                go_wp2_with fail
                refine CC.out.mono ?_
                rintro e w8 ⟨rfl, h8, hs8⟩
                have CR := h8.read name HNM.out
                rw [HST.out.now] at CR
                have CR := Lib.hid CR
                have H8 := Lib.hid h8
                have HS8 := Lib.hid (HSO.out.trans hs8)
                clear h8 hs8 CC HSO
                go_wp2_with fail
                refine CR.out.mono ?_
                rintro e w9 ⟨nw, rfl, hO9, hB9⟩
                have h9 := H8.out.below hB9
                have CR2 := h9.durable name HNM.out
                rw [HST.out.safe] at CR2
                have CR2 := Lib.hid CR2
                have HO9 := Lib.hid hO9
                have HS9 := Lib.hid (HS8.out.trans (H8.out.sameOn hB9))
                have H9 := Lib.hid h9
                obtain ⟨nA, nc, rfl⟩ := hO9.bytes.form
                clear hO9 hB9 h9 CR H8 HS8
                go_wp2_with fail
                refine CR2.out.mono ?_
                rintro e w10 ⟨sf, rfl, hO10, hB10⟩
                have hb1 := (HO9.out.below hB10).bytes
                have hb2 := hO10.bytes
                have hb3 : Bytes w10.heap.size w10 _ _ := (HBUF.out.keep (W' := w10) fun g hg => (HS9.out.trans (H9.out.sameOn hB10)).1 g (.inr ⟨(HBUF.out.own g hg).1, (HBUF.out.own g hg).2⟩)).bytes
                have HLOW := Lib.hid (H9.out.low.trans (hB10.mono H9.out.low.size))
                obtain ⟨sA, sc, rfl⟩ := hO10.bytes.form
                have C1 := same_calls _ _ _ _ w10 hb1 hb3
                have C2 := same_calls _ _ _ _ w10 hb2 hb3
                rw [decide_eq_true rfl] at C1 C2
                have C1 := Lib.hid C1
                have C2 := Lib.hid C2
                clear hO10 hB10 hb1 hb2 hb3 HS9 H9 HO9 HBUF CR2
                go_wp2_with fail
                refine C1.out.mono ?_
                rintro e w11 ⟨rfl, hw11⟩
                rw [hw11]
                go_wp2_with fail
                refine C2.out.mono ?_
                rintro e w12 ⟨rfl, hw12⟩
                rw [hw12]
                go_wp2_with fail
                go_ret
                exact ⟨rfl, HLOW.out⟩
        · have hnI : ((n : Int) != 0) = true := by simp; omega
          go_wp2_with fail
          go_ret
          exact ⟨rfl, H2.out.low⟩

end Go.Proofs.Ytmegiilkcidanaa.Disk

/-
  The walk of the law DiskScripts: whatever the room and the script, it returns true and nothing that lay has turned.
-/
namespace Go.Proofs.Ytmegiilkcidanaa.Disk
open Go Go.RowKit Go.Sort Go.Lib Go.Proofs.Ytmegiilkcidanaa.Law

/-- The document's new disk beside the first. -/
theorem both_new {w W : World} {db room : Nat} (h : Dk w db (DS.fresh room) W) :
    Both (fun _ => False) w db W.heap.size (DS.fresh room) (DS.fresh room) (W.alloc (.cells #[.int .i64 (room : Nat), .bool false, .slice none 0 0, .slice none 0 0, .slice none 0 0] 32)) := by
  have hB : Below W.heap.size W (W.alloc (.cells #[.int .i64 (room : Nat), .bool false, .slice none 0 0, .slice none 0 0, .slice none 0 0] 32)) := (Below.refl _ _).alloc (Nat.le_refl _) _
  have hs : (W.alloc (.cells #[.int .i64 (room : Nat), .bool false, .slice none 0 0, .slice none 0 0, .slice none 0 0] 32)).heap.size = W.heap.size + 1 := by simp
  have hrd : RD (W.alloc (.cells #[.int .i64 (room : Nat), .bool false, .slice none 0 0, .slice none 0 0, .slice none 0 0] 32)) W.heap.size (room : Nat) false (.slice none 0 0) (.slice none 0 0) (.slice none 0 0) := by
    show (W.alloc _).heap[W.heap.size]? = _
    simp only [World.alloc, Array.getElem?_push_size]
  refine ⟨fun k => k = W.heap.size, ((Dx.of h).add hB).less fun k hk => ?_, ⟨.slice none 0 0, .slice none 0 0, .slice none 0 0, [], [], [], Rel.fresh room h.wf.room, h.size, hrd, FilesAt.nil _ _, FilesAt.nil _ _, ChsAt.nil _ _, rfl, (fun g hg => by cases hg), (fun g hg => by cases hg), (fun g hg => by cases hg), (fun p hp => by cases hp), (fun p hp => by cases hp), (fun p hp => by cases hp), fun k hk => by omega⟩, fun k hk => hk.elim⟩
  rcases hk with rfl | hk
  · exact .inr ⟨Nat.le_refl _, by omega⟩
  · exact hk.elim

set_option maxRecDepth 100000 in
set_option maxHeartbeats 4000000 in
theorem diskScripts_law (room : Int) (sv : Value) (l : List Step) (w : World) (hS : Steps w.heap.size w sv l) (hl : l.length ≤ maxLen) :
    Calls Try.prog 3 #[.int .i64 room, sv] w fun e W' => e = .returned (.bool true) ∧ Below w.heap.size w W' := by
  simp only [maxLen] at hl
  obtain ⟨A, cap, rfl, hlc, hat⟩ := hS
  obtain ⟨len, hlen⟩ : ∃ n, l.length = n := ⟨_, rfl⟩
  have HL := Lib.hid hlen
  rw [hlen] at hl hlc hat ⊢
  have HC := Lib.hid hat
  have CK := Lib.hid (known_law w)
  clear hlen hat
  by_cases hroom : 0 ≤ room ∧ room ≤ 1073741824
  · obtain ⟨room, rfl⟩ : ∃ n : Nat, room = (n : Int) := ⟨room.toNat, by omega⟩
    have hr1 : ¬ (room : Int) < 0 := by omega
    have hr2 : ¬ 1073741824 < (room : Int) := by omega
    go_enter Try.func3, Try.ntmps3
    go_wp2_with fail
    refine CK.out.mono ?_
    rintro e w1 ⟨rfl, hB1⟩
    have HB1 := Lib.hid hB1
    clear hB1 CK
    go_wp2_with fail
    refine (new_dk room (by omega) w _ HB1.out).mono ?_
    rintro e w2 ⟨db, rfl, hD⟩
    have HD := Lib.hid (both_new hD)
    clear hD
    obtain ⟨w3, hw3⟩ : ∃ w3, w2.alloc (.cells #[.int .i64 (room : Nat), .bool false, .slice none 0 0, .slice none 0 0, .slice none 0 0] 32) = w3 := ⟨_, rfl⟩
    rw [hw3] at HD
    obtain ⟨q, hq⟩ : ∃ q, w2.heap.size = q := ⟨_, rfl⟩
    rw [hq] at HD
    go_wp2_with fail
    clear hw3 hq
    go_loopw [8] (fun i wr => ∃ k : Nat, i = .int .i64 k ∧ k ≤ len ∧ k ≤ 200 ∧ Hid (∃ D, Both (fun _ => False) w db q D D wr ∧ D.made ≤ k)) (fun i _ => 200 - (intOf i).toNat)
    case atStart => exact ⟨0, rfl, Nat.zero_le _, Nat.zero_le _, Lib.hid ⟨_, HD.out, Nat.le_refl _⟩⟩
    case round =>
      obtain ⟨k, rfl, hkl, hk200, HS⟩ := hrel
      by_cases hlt : k < len ∧ k < 200
      · obtain ⟨hlt1, hlt2⟩ := hlt
        obtain ⟨s, hs⟩ : ∃ s, l[k]? = some s := ⟨_, List.getElem?_eq_getElem (by rw [HL.out]; exact hlt1)⟩
        obtain ⟨b, off, rfl, hbw, hat⟩ := HC.out (by omega)
        obtain ⟨hfit, dv, pv', hcell, hdv, hpv⟩ := hat k s hs
        obtain ⟨D, hBoth, hmade⟩ := HS.out
        obtain ⟨d0, d1, d2, d3, d4⟩ := step_cells hbw hBoth.low hcell
        have CS := step_both hBoth (by omega) s hfit dv pv' hdv hpv
        have hbr : b < wr.heap.size := Nat.lt_of_lt_of_le hbw hBoth.low.size
        have hkI : (k : Int) < (len : Int) := by omega
        have hkI2 : (k : Int) < 200 := by omega
        have hmd := s.made_le D
        have HCELL : Hid (∀ W', Below w.heap.size w W' → W'.cell? ⟨b, off + k * 5 + 1, none⟩ = some (.string s.name)) := Lib.hid fun W' hB => (step_cells hbw hB hcell).2.1
        have HMD : Hid ((s.on D).made ≤ k + 1) := Lib.hid (by omega)
        have HNAME : Hid (Short s.name) := Lib.hid (by show s.name.size ≤ maxLen; have := hfit.name; simp only [maxLen]; omega)
        obtain ⟨nm, hnm⟩ : ∃ nm, s.name = nm := ⟨_, rfl⟩
        obtain ⟨D1, hD1⟩ : ∃ D1, s.on D = D1 := ⟨_, rfl⟩
        unfold stepV at CS
        rw [hD1] at CS HMD
        rw [hnm] at HCELL HNAME CS d1
        have CSH := Lib.hid CS
        clear hat hs hcell hdv hpv hBoth hmade CS hmd hfit HS hnm hD1 HD
        go_wp2_with fail
        refine CSH.out.mono ?_
        rintro e w5 ⟨rfl, hB5, _⟩
        have d1' := HCELL.out w5 hB5.low
        have CA := Lib.hid (alike_both hB5 (by have := HMD.out; omega) nm HNAME.out)
        clear hB5 CSH d0 d1 d2 d3 d4
        go_wp2_with fail
        refine CA.out.mono ?_
        rintro e w6 ⟨rfl, hB6, _⟩
        have HS2 : Hid (∃ D, Both (fun _ => False) w db q D D w6 ∧ D.made ≤ k + 1) := Lib.hid ⟨_, hB6, HMD.out⟩
        clear hB6 CA d1'
        go_wp2_with fail
        go_roundw
        case rel => exact ⟨k + 1, by go_num, by omega, by omega, HS2⟩
        case measure => simp [intOf]; omega
      · have hbr : ¬ (k : Int) < (len : Int) ∨ ((k : Int) < (len : Int) ∧ ¬ (k : Int) < 200) := by omega
        have HLOW : Hid (Below w.heap.size w wr) := Lib.hid (by obtain ⟨D, h, _⟩ := HS.out; exact h.low)
        clear HS HC hlt HD
        rcases hbr with hx | ⟨hx, hy⟩
        all_goals
          go_wp2_with fail
          go_ret
          exact ⟨rfl, HLOW.out⟩
  · rcases (show room < 0 ∨ (¬ room < 0 ∧ 1073741824 < room) by omega) with hr1 | ⟨hr1, hr2⟩
    all_goals
      go_enter Try.func3, Try.ntmps3
      go_wp2_with fail
      refine CK.out.mono ?_
      rintro e w1 ⟨rfl, hB1⟩
      have HB1 := Lib.hid hB1
      have CW := Lib.hid (new_refused room w1 hroom)
      clear hB1 hroom
      go_wp2_with fail
      refine CW.out.mono ?_
      rintro e w2 ⟨rfl, rfl⟩
      go_wp2_with fail
      go_ret
      exact ⟨rfl, HB1.out⟩

end Go.Proofs.Ytmegiilkcidanaa.Disk

/-
  The walk of the law DiskCopies: whatever the scripts, it returns true and nothing that lay has turned.
-/
namespace Go.Proofs.Ytmegiilkcidanaa.Disk
open Go Go.RowKit Go.Sort Go.Lib Go.Proofs.Ytmegiilkcidanaa.Law

/-- Another of the document's new disks beside a pair of new ones. -/
theorem tri_new {w W : World} {db q room : Nat} (h : Both (fun _ => False) w db q (DS.fresh room) (DS.fresh room) W) :
    Tri2 w db q W.heap.size (DS.fresh room) (DS.fresh room) (W.alloc (.cells #[.int .i64 (room : Nat), .bool false, .slice none 0 0, .slice none 0 0, .slice none 0 0] 32)) := by
  have hB : Below W.heap.size W (W.alloc (.cells #[.int .i64 (room : Nat), .bool false, .slice none 0 0, .slice none 0 0, .slice none 0 0] 32)) := (Below.refl _ _).alloc (Nat.le_refl _) _
  have hs : (W.alloc (.cells #[.int .i64 (room : Nat), .bool false, .slice none 0 0, .slice none 0 0, .slice none 0 0] 32)).heap.size = W.heap.size + 1 := by simp
  have hrd : RD (W.alloc (.cells #[.int .i64 (room : Nat), .bool false, .slice none 0 0, .slice none 0 0, .slice none 0 0] 32)) W.heap.size (room : Nat) false (.slice none 0 0) (.slice none 0 0) (.slice none 0 0) := by
    show (W.alloc _).heap[W.heap.size]? = _
    simp only [World.alloc, Array.getElem?_push_size]
  have hroom : room ≤ 1073741824 := by
    obtain ⟨R, ⟨O, _, _, _, hw, _⟩, _⟩ := h
    exact hw.room
  refine ⟨fun k => k = W.heap.size, (h.add hB).less fun k hk => .inr (by omega), ⟨.slice none 0 0, .slice none 0 0, .slice none 0 0, [], [], [], Rel.fresh room hroom, h.low.size, hrd, FilesAt.nil _ _, FilesAt.nil _ _, ChsAt.nil _ _, rfl, (fun g hg => by cases hg), (fun g hg => by cases hg), (fun g hg => by cases hg), (fun p hp => by cases hp), (fun p hp => by cases hp), (fun p hp => by cases hp), fun k hk => by omega⟩⟩

/-- A disk that was copied, with its own of the document's. -/
theorem Tri2.copied {w W W' : World} {db q n : Nat} {D : DS} (h : Tri2 w db q n D D W) {e : Ending} (hC : CopyO W D e W') : ∃ dc, e = .returned (.pointer (some ⟨dc, 0, none⟩)) ∧ Quad w db q dc n D D W' := by
  obtain ⟨R2, h1, h2⟩ := h
  obtain ⟨dc, O2, rfl, h3, h4, hB⟩ := hC
  have hwf : WF D := by
    obtain ⟨R, ⟨O, _, _, _, hw, _⟩, _⟩ := h1
    exact hw
  have hR2 : ∀ k, R2 k → w.heap.size ≤ k ∧ k < W.heap.size := by
    obtain ⟨R, ⟨O, _, _, _, _, h5⟩, _⟩ := h1
    exact fun k hk => ⟨(h5 k (.inr hk)).1, (h5 k (.inr hk)).2.1⟩
  have hs := h1.low.size
  have h5 := h1.add hB
  refine ⟨dc, rfl, h5.low, _, fun k => R2 k ∨ (W.heap.size ≤ k ∧ k < W'.heap.size), h5.lives, ⟨⟨O2, R2, h3, hwf, h2.below hB, fun k hk => .inr ⟨h4 k hk, h3.lt k hk⟩, fun k hk => .inl hk, fun k hk => Classical.byContradiction fun e => ?_⟩, fun k hk => ?_⟩, fun k hk => hk.2.2⟩
  · have := h4 k e
    have := (hR2 k hk).2
    omega
  · rcases hk with hk | hk
    · exact ⟨(hR2 k hk).1, Nat.lt_of_lt_of_le (hR2 k hk).2 hB.size⟩
    · exact ⟨Nat.le_trans hs hk.1, hk.2⟩

/-- What a script's step is at a world above the law's start. -/
def StepIn (w : World) (b p : Nat) (s : Step) (dv pv : Value) : Prop := b < w.heap.size ∧ (∀ W, Below w.heap.size w W → StepAt W b p s dv pv) ∧ s.fits ∧ Bytes w.heap.size w dv s.data ∧ Ints (fun b => b < w.heap.size) w pv s.picks
theorem step_in {w : World} {A : Option Addr} {len : Nat} {l : List Step} (HL : l.length = len) (HC : 0 < len → ∃ b off, A = some ⟨b, off, none⟩ ∧ b < w.heap.size ∧ ∀ (j : Nat) (s : Step), l[j]? = some s → s.fits ∧ ∃ dv pv, StepAt w b (off + j * 5) s dv pv ∧ Bytes w.heap.size w dv s.data ∧ Ints (fun b => b < w.heap.size) w pv s.picks) {k : Nat} (hk : k < len) :
    ∃ b off s dv pv, A = some ⟨b, off, none⟩ ∧ StepIn w b (off + k * 5) s dv pv := by
  obtain ⟨s, hs⟩ : ∃ s, l[k]? = some s := ⟨_, List.getElem?_eq_getElem (by rw [HL]; exact hk)⟩
  obtain ⟨b, off, hA, hbw, hat⟩ := HC (by omega)
  obtain ⟨hfit, dv, pv', hcell, hdv, hpv⟩ := hat k s hs
  exact ⟨b, off, s, dv, pv', hA, hbw, fun W hB => step_cells hbw hB hcell, hfit, hdv, hpv⟩

theorem short_one : Short (⟨#[97]⟩ : ByteArray) := by show (⟨#[97]⟩ : ByteArray).size ≤ maxLen; decide

/-- The two pairs behind so many rounds. -/
def Pairs (w : World) (db q dc n : Nat) (k : Nat) (W : World) : Prop := ∃ D E, Quad w db q dc n D E W ∧ D.made ≤ 60 + k ∧ E.made ≤ 60 + k

/-- A step of either pair, and the question of both, as calls. -/
theorem pairs_step1 {w W : World} {db q dc n k b p : Nat} {s : Step} {dv pv : Value} (h : Pairs w db q dc n k W) (hk : k ≤ 60) (hs : StepIn w b p s dv pv) :
    Calls Try.prog 10 #[.pointer (some ⟨db, 0, none⟩), .pointer (some ⟨q, 0, none⟩), .agg #[.int .i64 s.kind, .string s.name, .int .i64 s.at', dv, pv]] W fun e W' => e = .returned (.bool true) ∧ ∃ D E, Quad w db q dc n D E W' ∧ D.made ≤ 60 + (k + 1) ∧ E.made ≤ 60 + k := by
  obtain ⟨D, E, hQ, h1, h2⟩ := h
  obtain ⟨_, _, hf, hD, hP⟩ := hs
  refine (hQ.first (D' := s.on D) (P := fun e => e = .returned (.bool true)) (fun K hB => step_both hB (by omega) s hf dv pv hD hP)).mono ?_
  rintro e W' ⟨rfl, hQ'⟩
  exact ⟨rfl, _, _, hQ', by have := s.made_le D; omega, h2⟩
theorem pairs_step2 {w W : World} {db q dc n k b p : Nat} {s : Step} {dv pv : Value} (h : ∃ D E, Quad w db q dc n D E W ∧ D.made ≤ 60 + (k + 1) ∧ E.made ≤ 60 + k) (hk : k ≤ 60) (hs : StepIn w b p s dv pv) :
    Calls Try.prog 10 #[.pointer (some ⟨dc, 0, none⟩), .pointer (some ⟨n, 0, none⟩), .agg #[.int .i64 s.kind, .string s.name, .int .i64 s.at', dv, pv]] W fun e W' => e = .returned (.bool true) ∧ Pairs w db q dc n (k + 1) W' := by
  obtain ⟨D, E, hQ, h1, h2⟩ := h
  obtain ⟨_, _, hf, hD, hP⟩ := hs
  refine (hQ.second (D' := s.on E) (P := fun e => e = .returned (.bool true)) (fun K hB => step_both hB (by omega) s hf dv pv hD hP)).mono ?_
  rintro e W' ⟨rfl, hQ'⟩
  exact ⟨rfl, _, _, hQ', h1, by have := s.made_le E; omega⟩
theorem pairs_alike1 {w W : World} {db q dc n k : Nat} (h : Pairs w db q dc n k W) (hk : k ≤ 61) :
    Calls Try.prog 11 #[.pointer (some ⟨db, 0, none⟩), .pointer (some ⟨q, 0, none⟩), .string ⟨#[97]⟩] W fun e W' => e = .returned (.bool true) ∧ Pairs w db q dc n k W' := by
  obtain ⟨D, E, hQ, h1, h2⟩ := h
  refine (hQ.first (D' := D) (P := fun e => e = .returned (.bool true)) (fun K hB => alike_both hB (by omega) _ short_one)).mono ?_
  rintro e W' ⟨rfl, hQ'⟩
  exact ⟨rfl, _, _, hQ', h1, h2⟩
theorem pairs_alike2 {w W : World} {db q dc n k : Nat} (h : Pairs w db q dc n k W) (hk : k ≤ 61) :
    Calls Try.prog 11 #[.pointer (some ⟨dc, 0, none⟩), .pointer (some ⟨n, 0, none⟩), .string ⟨#[97]⟩] W fun e W' => e = .returned (.bool true) ∧ Pairs w db q dc n k W' := by
  obtain ⟨D, E, hQ, h1, h2⟩ := h
  refine (hQ.second (D' := E) (P := fun e => e = .returned (.bool true)) (fun K hB => alike_both hB (by omega) _ short_one)).mono ?_
  rintro e W' ⟨rfl, hQ'⟩
  exact ⟨rfl, _, _, hQ', h1, h2⟩
theorem Pairs.low {w W : World} {db q dc n k : Nat} (h : Pairs w db q dc n k W) : Below w.heap.size w W := by
  obtain ⟨D, E, h, _⟩ := h
  exact h.low
theorem Pairs.ahead {w W : World} {db q dc n k : Nat} (h : Pairs w db q dc n k W) : ∃ D E, Quad w db q dc n D E W ∧ D.made ≤ 60 + (k + 1) ∧ E.made ≤ 60 + k := by
  obtain ⟨D, E, h, h1, h2⟩ := h
  exact ⟨D, E, h, by omega, h2⟩
theorem pairs_after {w W : World} {db q dc n k : Nat} (h : ∃ D E, Quad w db q dc n D E W ∧ D.made ≤ 60 + (k + 1) ∧ E.made ≤ 60 + k) : Pairs w db q dc n (k + 1) W := by
  obtain ⟨D, E, h, h1, h2⟩ := h
  exact ⟨D, E, h, h1, by omega⟩
theorem pairs_low {w W : World} {db q dc n k : Nat} (h : ∃ D E, Quad w db q dc n D E W ∧ D.made ≤ 60 + (k + 1) ∧ E.made ≤ 60 + k) : Below w.heap.size w W := by
  obtain ⟨D, E, h, _⟩ := h
  exact h.low

set_option maxRecDepth 100000 in
set_option maxHeartbeats 8000000 in
theorem diskCopies_law (v0 : Value) (l0 : List Step) (v1 : Value) (l1 : List Step) (v2 : Value) (l2 : List Step) (w : World) (h0 : Steps w.heap.size w v0 l0) (h1 : Steps w.heap.size w v1 l1) (h2 : Steps w.heap.size w v2 l2) :
    Calls Try.prog 5 #[v0, v1, v2] w fun e W' => e = .returned (.bool true) ∧ Below w.heap.size w W' := by
  obtain ⟨A0, cap0, rfl, hlc0, hat0⟩ := h0
  obtain ⟨A1, cap1, rfl, hlc1, hat1⟩ := h1
  obtain ⟨A2, cap2, rfl, hlc2, hat2⟩ := h2
  obtain ⟨len0, hlen0⟩ : ∃ n, l0.length = n := ⟨_, rfl⟩
  obtain ⟨len1, hlen1⟩ : ∃ n, l1.length = n := ⟨_, rfl⟩
  obtain ⟨len2, hlen2⟩ : ∃ n, l2.length = n := ⟨_, rfl⟩
  rw [hlen0] at hlc0 hat0 ⊢
  rw [hlen1] at hlc1 hat1 ⊢
  rw [hlen2] at hlc2 hat2 ⊢
  have S0 : Hid (∀ k, k < len0 → ∃ b off s dv pv, A0 = some ⟨b, off, none⟩ ∧ StepIn w b (off + k * 5) s dv pv) := Lib.hid fun k hk => step_in hlen0 hat0 hk
  have S1 : Hid (∀ k, k < len1 → ∃ b off s dv pv, A1 = some ⟨b, off, none⟩ ∧ StepIn w b (off + k * 5) s dv pv) := Lib.hid fun k hk => step_in hlen1 hat1 hk
  have S2 : Hid (∀ k, k < len2 → ∃ b off s dv pv, A2 = some ⟨b, off, none⟩ ∧ StepIn w b (off + k * 5) s dv pv) := Lib.hid fun k hk => step_in hlen2 hat2 hk
  have CK := Lib.hid (known_law w)
  clear hlen0 hlen1 hlen2 hat0 hat1 hat2
  go_enter Try.func5, Try.ntmps5
  go_wp2_with fail
  refine CK.out.mono ?_
  rintro e w1 ⟨rfl, hB1⟩
  have HB1 := Lib.hid hB1
  clear hB1 CK
  go_wp2_with fail
  refine (new_dk 500 (by decide) w _ HB1.out).mono ?_
  rintro e w2 ⟨db, rfl, hD⟩
  have hD2 := both_new hD
  have hD3 := tri_new hD2
  have e5 : ((500 : Nat) : Int) = 500 := rfl
  rw [e5] at hD3
  obtain ⟨w3, hw3⟩ : ∃ w3, w2.alloc (.cells #[.int .i64 500, .bool false, .slice none 0 0, .slice none 0 0, .slice none 0 0] 32) = w3 := ⟨_, rfl⟩
  rw [hw3] at hD3
  obtain ⟨q, hq⟩ : ∃ q, w2.heap.size = q := ⟨_, rfl⟩
  rw [hq] at hD3
  obtain ⟨w4, hw4⟩ : ∃ w4, w3.alloc (.cells #[.int .i64 500, .bool false, .slice none 0 0, .slice none 0 0, .slice none 0 0] 32) = w4 := ⟨_, rfl⟩
  rw [hw4] at hD3
  have hn : w3.heap.size = q + 1 := by rw [← hw3, World.size_alloc, hq]
  rw [hn] at hD3
  obtain ⟨n, hnq⟩ : ∃ n, q + 1 = n := ⟨_, rfl⟩
  rw [hnq] at hD3
  have HD := Lib.hid hD3
  clear hD hD2 hD3 HB1 e5
  go_wp2_with fail
  clear hw3 hw4 hq hn hnq
  go_loopw [11] (fun i wr => ∃ k : Nat, i = .int .i64 k ∧ k ≤ len0 ∧ k ≤ 60 ∧ Hid (∃ D, Tri2 w db q n D D wr ∧ D.made ≤ k)) (fun i _ => 60 - (intOf i).toNat)
  case atStart => exact ⟨0, rfl, Nat.zero_le _, Nat.zero_le _, Lib.hid ⟨DS.fresh 500, HD.out, Nat.le_refl 0⟩⟩
  case round =>
    obtain ⟨k, rfl, hkl, hk60, HS⟩ := hrel
    by_cases hlt : k < len0 ∧ k < 60
    · obtain ⟨hlt1, hlt2⟩ := hlt
      obtain ⟨b, off, s, dv, pv', rfl, hsi⟩ := S0.out k hlt1
      obtain ⟨D, hT, hmade⟩ := HS.out
      obtain ⟨hbw, hcells, hfit, hdv, hpv⟩ := hsi
      have hmd := s.made_le D
      have CS := hT.first (D' := s.on D) (P := fun e => e = .returned (.bool true)) (fun K hB => step_both hB (by omega) s hfit dv pv' hdv hpv)
      obtain ⟨d0, d1, d2, d3, d4⟩ := hcells wr hT.low
      have hbr : b < wr.heap.size := Nat.lt_of_lt_of_le hbw hT.low.size
      have CT : Hid (∀ W', Tri2 w db q n (s.on D) D W' → Calls Try.prog 18 #[.pointer (some ⟨n, 0, none⟩), .agg #[.int .i64 s.kind, .string s.name, .int .i64 s.at', dv, pv']] W' fun e W2 => e = .returned (.tuple #[]) ∧ ∃ D, Tri2 w db q n D D W2 ∧ D.made ≤ k + 1) := Lib.hid fun W' hT' => by
        refine (hT'.alone (D' := s.on D) (P := fun e => e = .returned (.tuple #[])) (fun R hR => twin_calls hR (by omega) s hfit dv pv' (hdv.below hT'.low) (hpv.at fun b hb => hT'.low.block b hb))).mono ?_
        rintro e W2 ⟨rfl, h⟩
        exact ⟨rfl, _, h, by omega⟩
      have HCELL : Hid (∀ W', Below w.heap.size w W' → StepAt W' b (off + k * 5) s dv pv') := Lib.hid hcells
      have hkI : (k : Int) < (len0 : Int) := by omega
      have hkI2 : (k : Int) < 60 := by omega
      unfold stepV at CS
      have CSH := Lib.hid CS
      obtain ⟨D1, hD1⟩ : ∃ D1, s.on D = D1 := ⟨_, rfl⟩
      rw [hD1] at CSH CT
      clear hcells hfit hdv hpv hT hmade CS hmd HS hD1 HD
      go_wp2_with fail
      refine CSH.out.mono ?_
      rintro e w5 ⟨rfl, hT5⟩
      obtain ⟨e0, e1, e2, e3, e4⟩ := HCELL.out w5 hT5.low
      have hbr5 : b < w5.heap.size := Nat.lt_of_lt_of_le hbw hT5.low.size
      have CTH := Lib.hid (CT.out w5 hT5)
      clear hT5 CSH CT d0 d1 d2 d3 d4
      go_wp2_with fail
      refine CTH.out.mono ?_
      rintro e w6 ⟨rfl, hS6⟩
      have HS2 := Lib.hid hS6
      clear hS6 CTH e0 e1 e2 e3 e4
      go_wp2_with fail
      go_roundw
      case rel => exact ⟨k + 1, by go_num, by omega, by omega, HS2⟩
      case measure => simp [intOf]; omega
    · have hbr : ¬ (k : Int) < (len0 : Int) ∨ ((k : Int) < (len0 : Int) ∧ ¬ (k : Int) < 60) := by omega
      obtain ⟨D, hT, hmade⟩ := HS.out
      have CC : Hid (Calls Try.prog 19 #[.pointer (some ⟨db, 0, none⟩)] wr fun e W' => ∃ dc, e = .returned (.pointer (some ⟨dc, 0, none⟩)) ∧ Hid (Pairs w db q dc n 0 W')) := Lib.hid (by
        obtain ⟨R2, ⟨R, ⟨O, hd, _, _, hw, _⟩, _⟩, _⟩ := id hT
        refine (copyD_calls wr O db D hd hw (by omega)).mono ?_
        intro e W' hC
        obtain ⟨dc, he, hQ⟩ := hT.copied hC
        exact ⟨dc, he, Lib.hid ⟨D, D, hQ, by omega, by omega⟩⟩)
      clear HS hlt HD hT hmade S0
      rcases hbr with hx | ⟨hx, hy⟩
      all_goals
        go_wp2_with fail
        refine CC.out.mono ?_
        rintro e w5 ⟨dc, rfl, HP⟩
        clear CC
        go_wp2_with fail
        go_loopw [13] (fun i wr => ∃ k : Nat, i = .int .i64 k ∧ k ≤ 60 ∧ Hid (Pairs w db q dc n k wr)) (fun i _ => 60 - (intOf i).toNat)
        case atStart => exact ⟨0, rfl, Nat.zero_le _, HP⟩
        case round =>
          obtain ⟨k, rfl, hk60, HS⟩ := hrel
          have HLOW : Hid (Below w.heap.size w wr) := Lib.hid HS.out.low
          by_cases hend : k < 60 ∧ (k < len1 ∨ k < len2)
          · obtain ⟨hlt2, hor⟩ := hend
            have hkI2 : (k : Int) < 60 := by omega
            have hmx : (k : Int) < max (len1 : Int) (len2 : Int) := by omega
            by_cases ha : k < len1
            · have haI : (k : Int) < (len1 : Int) := by omega
              obtain ⟨b, off, s, dv, pv', rfl, hsi⟩ := S1.out k ha
              obtain ⟨d0, d1, d2, d3, d4⟩ := hsi.2.1 wr HLOW.out
              have hbr : b < wr.heap.size := Nat.lt_of_lt_of_le hsi.1 HLOW.out.size
              have C1 := Lib.hid (pairs_step1 HS.out hk60 hsi)
              by_cases hb : k < len2
              · have hbI : (k : Int) < (len2 : Int) := by omega
                obtain ⟨b2, off2, s2, dv2, pv2, rfl, hsi2⟩ := S2.out k hb
                have HSI2 := Lib.hid hsi2
                clear hsi hsi2 HS
                go_wp2_with fail
                refine C1.out.mono ?_
                rintro e w6 ⟨rfl, h6⟩
                obtain ⟨e0, e1, e2, e3, e4⟩ := HSI2.out.2.1 w6 (pairs_low h6)
                have hbr6 : b2 < w6.heap.size := Nat.lt_of_lt_of_le HSI2.out.1 (pairs_low h6).size
                have C2 := Lib.hid (pairs_step2 h6 hk60 HSI2.out)
                clear h6 C1 d0 d1 d2 d3 d4
                go_wp2_with fail
                refine C2.out.mono ?_
                rintro e w7 ⟨rfl, h7⟩
                have C3 := Lib.hid (pairs_alike1 h7 (by omega))
                clear h7 C2 e0 e1 e2 e3 e4
                go_wp2_with fail
                refine C3.out.mono ?_
                rintro e w8 ⟨rfl, h8⟩
                have C4 := Lib.hid (pairs_alike2 h8 (by omega))
                clear h8 C3
                go_wp2_with fail
                refine C4.out.mono ?_
                rintro e w9 ⟨rfl, h9⟩
                have H9 := Lib.hid h9
                clear h9 C4
                go_wp2_with fail
                go_roundw
                case rel => exact ⟨k + 1, by go_num, by omega, H9⟩
                case measure => simp [intOf]; omega
              · have hbI : ¬ (k : Int) < (len2 : Int) := by omega
                clear hsi HS
                go_wp2_with fail
                refine C1.out.mono ?_
                rintro e w6 ⟨rfl, h6⟩
                have C3 := Lib.hid (pairs_alike1 (pairs_after h6) (by omega))
                clear h6 C1 d0 d1 d2 d3 d4
                go_wp2_with fail
                refine C3.out.mono ?_
                rintro e w8 ⟨rfl, h8⟩
                have C4 := Lib.hid (pairs_alike2 h8 (by omega))
                clear h8 C3
                go_wp2_with fail
                refine C4.out.mono ?_
                rintro e w9 ⟨rfl, h9⟩
                have H9 := Lib.hid h9
                clear h9 C4
                go_wp2_with fail
                go_roundw
                case rel => exact ⟨k + 1, by go_num, by omega, H9⟩
                case measure => simp [intOf]; omega
            · have haI : ¬ (k : Int) < (len1 : Int) := by omega
              have hbI : (k : Int) < (len2 : Int) := by omega
              obtain ⟨b2, off2, s2, dv2, pv2, rfl, hsi2⟩ := S2.out k (by omega)
              obtain ⟨e0, e1, e2, e3, e4⟩ := hsi2.2.1 wr HLOW.out
              have hbr6 : b2 < wr.heap.size := Nat.lt_of_lt_of_le hsi2.1 HLOW.out.size
              have C2 := Lib.hid (pairs_step2 HS.out.ahead hk60 hsi2)
              clear hsi2 HS
              go_wp2_with fail
              refine C2.out.mono ?_
              rintro e w7 ⟨rfl, h7⟩
              have C3 := Lib.hid (pairs_alike1 h7 (by omega))
              clear h7 C2 e0 e1 e2 e3 e4
              go_wp2_with fail
              refine C3.out.mono ?_
              rintro e w8 ⟨rfl, h8⟩
              have C4 := Lib.hid (pairs_alike2 h8 (by omega))
              clear h8 C3
              go_wp2_with fail
              refine C4.out.mono ?_
              rintro e w9 ⟨rfl, h9⟩
              have H9 := Lib.hid h9
              clear h9 C4
              go_wp2_with fail
              go_roundw
              case rel => exact ⟨k + 1, by go_num, by omega, H9⟩
              case measure => simp [intOf]; omega
          · have hbr : ¬ (k : Int) < max (len1 : Int) (len2 : Int) ∨ ((k : Int) < max (len1 : Int) (len2 : Int) ∧ ¬ (k : Int) < 60) := by omega
            clear HS hend
            rcases hbr with hx2 | ⟨hx2, hy2⟩
            all_goals
              go_wp2_with fail
              go_ret
              exact ⟨rfl, HLOW.out⟩

end Go.Proofs.Ytmegiilkcidanaa.Disk
