/-
  Contract of the model's passed.
-/
import Derived.Test.YtmfndimejnbgkaaModelLeaf
import Derived.Test.YtmfndimejnbgkaaCutRow
import Derived.Test.YtmfndimejnbgkaaRowOf
import Derived.Deep.Cut
import Derived.Deep.RegionHeld3
import Derived.LoopTactic
namespace Go.Proofs.Ytmfndimejnbgkaa.Model
open Go Go.RowKit Go.Proofs.Ytmfndimejnbgkaa.Law Go.Proofs.Ytmfndimejnbgkaa.Graph Go.Proofs.Ytmfndimejnbgkaa.Fold

theorem passedN_take {o : Opr} {l : List Pr} {k : Nat} {p : Pr} (h : l[k]? = some p) : passedN o (l.take (k + 1)) = passedN o (l.take k) ++ (passOne o p).toList := by
  unfold passedN
  rw [Graph.take_snoc h, List.filterMap_append]
  cases h0 : passOne o p with
  | none => simp [h0]
  | some y => simp [h0]
theorem passedN_len (o : Opr) (l : List Pr) : (passedN o l).length ≤ l.length := List.length_filterMap_le _ _
abbrev opObj (x : Opr) (u : Value) : Obj := .cells #[.int .i64 x.kind, u, .int .i64 x.arg, .int .u32 (x.num : Nat), .int .i64 x.rounds, .int .i64 x.test, .int .u32 (x.lim : Nat)] 27
abbrev prObj (p : Pr) : Obj := .cells #[.string p.key, .int .u32 (p.val : Nat)] 47
theorem boxP {W : World} {b : Nat} {p : Pr} (h : W.heap[b]? = some (prObj p)) : W.cell? ⟨b, 0, none⟩ = some (.string p.key) ∧ W.cell? ⟨b, 1, none⟩ = some (.int .u32 (p.val : Nat)) := by
  refine ⟨?_, ?_⟩ <;> simp [World.cell?, h]
theorem ownP_lt {W : World} {base : Nat} {v : Value} {l : List Pr} (h : OwnP W base v l) {n : Nat} (hn : n < base) : some n ≠ v.ownBlock := fun e => by
  have := (h.own e.symm).1
  omega
theorem grown_below {B : Nat} {W w w' : World} {base : Nat} {v : Value} {l : List Pr} (hB : Below B W w) (hg : w.grownBy w' v.ownBlock) (hown : OwnP w base v l) (hb : B ≤ base) (hs : B ≤ w.heap.size) : Below B W w' :=
  hB.grown hg hs (fun _ hk => Nat.le_trans hb (hown.own hk).1)

set_option maxRecDepth 100000 in
set_option maxHeartbeats 4000000 in
theorem passed_calls (x : Opr) (u : Value) (hr : x.kind = 7 → 0 ≤ x.rounds ∧ x.rounds ≤ 16) (hn : x.num < 4294967296) (hl : x.lim < 4294967296) (l : List Pr) (hwf : wfP l) (hlen : l.length * 24 ≤ 140737488355328) (v : Value) (w : World) (h : OldP w.heap.size w v l) :
    Calls Try.prog 67 #[opV x u, v] w (RetP (passedN x l) w) := by
  obtain ⟨A, cap, rfl, _⟩ := h.form
  obtain ⟨n, hN⟩ : ∃ n, l.length = n := ⟨_, rfl⟩
  rw [hN] at h hlen ⊢
  obtain ⟨q, hq⟩ : ∃ q, w.heap.size = q := ⟨_, rfl⟩
  obtain ⟨W1, hW1⟩ : ∃ W1, w.alloc (opObj x u) = W1 := ⟨_, rfl⟩
  have hB1 : Below q w W1 := by rw [← hW1, ← hq]; exact alloc_low _ _
  have hbx : W1.heap[q]? = some (opObj x u) := by rw [← hW1, ← hq]; exact heap_alloc_new w _
  have hs1 : q + 1 ≤ W1.heap.size := by rw [← hW1, ← hq]; simp
  have HW := Lib.hid hW1
  have HB1 := Lib.hid hB1
  have HX1 := Lib.hid hbx
  have HQ := Lib.hid hq
  have HN := Lib.hid hN
  have HI := Lib.hid h
  have HWF := Lib.hid hwf
  have HLEN := Lib.hid hlen
  have CT := Lib.hid fun (W : World) (y : Nat) (hy : y < 4294967296) => turned_calls x u hr hn hl y hy W
  have CS := Lib.hid fun (W : World) (y : Nat) (hy : y < 4294967296) => test_calls x.arg x.num y hn hy W
  have HTL := Lib.hid fun (y : Nat) (hy : y < 4294967296) => turnN_lt x hn y hy
  have hnn : n ≤ 5864062014805 := by omega
  clear hW1 hB1 hbx hN h hwf hr hlen hq
  go_enter Try.func67, Try.ntmps67
  go_wp2_with fail
  rw [HW.out, HQ.out]
  go_loopw [5, 10] (fun c i wr => ∃ (k m cc : Nat) (Ac : Option Addr), i = .int .i64 k ∧ k ≤ n ∧ c = .slice Ac m cc ∧ Hid ((passedN x (l.take k)).length = m) ∧ Hid (OwnP wr (q + 1) (.slice Ac m cc) (passedN x (l.take k)) ∧ Below q w wr ∧ wr.heap[q]? = some (opObj x u) ∧ q + 1 ≤ wr.heap.size)) (fun _ i _ => n - (intOf i).toNat)
  case atStart => exact ⟨0, 0, 0, none, rfl, Nat.zero_le _, rfl, Lib.hid (by simp [passedN]), Lib.hid ⟨by rw [List.take_zero]; exact OwnTwo.nil _ _ _, HB1.out, HX1.out, hs1⟩⟩
  case round =>
    obtain ⟨k, m, cc, Ac, rfl, hk, rfl, HM, HO⟩ := hrel
    by_cases hlt : k < n
    · obtain ⟨p, hp⟩ : ∃ p, l[k]? = some p := ⟨_, List.getElem?_eq_getElem (by rw [HN.out]; exact hlt)⟩
      obtain ⟨hO, hB, hX, hs⟩ := HO.out
      obtain ⟨b, off, rfl, hb, hc⟩ := (TwoAt.low (HQ.out ▸ hB) HI.out).at (by omega)
      obtain ⟨c0, c1⟩ := hc k p hp
      obtain ⟨hps, hpv⟩ := HWF.out p (List.mem_of_getElem? hp)
      obtain ⟨W2, hW2⟩ : ∃ W2, wr.alloc (prObj p) = W2 := ⟨_, rfl⟩
      have hB2 : Below wr.heap.size wr W2 := by rw [← hW2]; exact alloc_low _ _
      have hP2 : W2.heap[wr.heap.size]? = some (prObj p) := by rw [← hW2]; exact heap_alloc_new wr _
      have hs2 : wr.heap.size < W2.heap.size := by rw [← hW2]; simp
      have hX2 : W2.heap[q]? = some (opObj x u) := (hB2.block q (by omega)).trans hX
      obtain ⟨⟨d0, d1, d2, d3, d4, d5, d6⟩, -⟩ := box7 hX2
      obtain ⟨e0, e1⟩ := boxP hP2
      have hBq : Below q w W2 := hB.trans (hB2.mono (by omega))
      have hO2 : OwnP W2 (q + 1) (.slice Ac m cc) (passedN x (l.take k)) := hO.below hB2
      have hkm := passedN_len x (l.take k)
      rw [List.length_take] at hkm
      have HK1 : Hid (k + 1 ≤ n) := Lib.hid hlt
      have HW2 := Lib.hid hW2
      have HC : Hid (∀ w' : World, (w'.heap[q]? = some (opObj x u) ∧ w'.heap[wr.heap.size]? = some (prObj p)) → ((w'.cell? ⟨q, 0, none⟩ = some (.int .i64 x.kind) ∧ w'.cell? ⟨q, 1, none⟩ = some u ∧ w'.cell? ⟨q, 2, none⟩ = some (.int .i64 x.arg) ∧ w'.cell? ⟨q, 3, none⟩ = some (.int .u32 (x.num : Nat)) ∧ w'.cell? ⟨q, 4, none⟩ = some (.int .i64 x.rounds) ∧ w'.cell? ⟨q, 5, none⟩ = some (.int .i64 x.test) ∧ w'.cell? ⟨q, 6, none⟩ = some (.int .u32 (x.lim : Nat))) ∧ w'.cell? ⟨wr.heap.size, 0, none⟩ = some (.string p.key) ∧ w'.cell? ⟨wr.heap.size, 1, none⟩ = some (.int .u32 (p.val : Nat)))) := Lib.hid fun w' hw' => ⟨(box7 hw'.1).1, boxP hw'.2⟩
      have hst := passedN_take (o := x) hp
      have HST := Lib.hid hst
      have HO2 := Lib.hid hO2
      have HBq := Lib.hid hBq
      have HX2 := Lib.hid hX2
      have HPV := Lib.hid hpv
      have HKM := Lib.hid hkm
      have hdone : Hid (passOne x p = none → (passedN x (l.take (k + 1))).length = m ∧ passedN x (l.take (k + 1)) = passedN x (l.take k)) := Lib.hid fun h0 => by
        rw [hst, h0, Option.toList_none, List.append_nil]; exact ⟨HM.out, rfl⟩
      by_cases h3 : x.kind = 3 ∧ tsN x.arg x.num p.val = false
      · obtain ⟨h3, ht⟩ := h3
        have g3 : (x.kind == 3) = true := by rw [beq_iff_eq]; exact h3
        have hCS := CS.out W2 p.val hpv
        rw [ht] at hCS
        have HCS := Lib.hid hCS
        have HD := Lib.hid (hdone.out (by unfold passOne; rw [if_pos ⟨h3, ht⟩]))
        clear hO hB hX hc hp hps hpv hW2 hB2 hP2 hX2 hBq hO2 hkm hst h3 ht hCS HO hb
        go_upto_region 5 with fail
        rw [HW2.out]
        go_wp2_with fail
        refine HCS.out.mono ?_
        rintro e w2 ⟨rfl, rfl⟩
        go_wp2_with fail
        go_roundw
        case rel => exact ⟨k + 1, m, cc, Ac, by go_num, HK1.out, rfl, Lib.hid HD.out.1, Lib.hid ⟨by rw [HD.out.2]; exact HO2.out, HBq.out, HX2.out, by omega⟩⟩
        case measure => have h := HK1.out; simp [intOf]; omega
      · have hp1 : passOne x p = some ⟨p.key, turnN x p.val⟩ := by unfold passOne; rw [if_neg h3]
        have hst2 : passedN x (l.take (k + 1)) = passedN x (l.take k) ++ [⟨p.key, turnN x p.val⟩] := by rw [hst, hp1]; rfl
        have HST2 := Lib.hid hst2
        have hCT := CT.out W2.drew p.val hpv
        have HCT := Lib.hid hCT
        have HLE : Hid ((m + 1) * 24 ≤ 140737488355328) := Lib.hid (by have h1 := HLEN.out; have h2 := HM.out; have h3 := HKM.out; omega)
        have HS2 := Lib.hid hs2
        have HT2 := Lib.hid (HTL.out p.val hpv)
        have HP2 := Lib.hid hP2
        have HO := Lib.hid hO
        have hsplit : (x.kind = 3 ∧ tsN x.arg x.num p.val = true) ∨ x.kind ≠ 3 := by
          by_cases hk3 : x.kind = 3
          · refine .inl ⟨hk3, ?_⟩
            cases ht : tsN x.arg x.num p.val with
            | true => rfl
            | false => exact absurd ⟨hk3, ht⟩ h3
          · exact .inr hk3
        have hCS := fun (ht : tsN x.arg x.num p.val = true) => (by have h := CS.out W2 p.val hpv; rw [ht] at h; exact h : Calls Try.prog 113 #[.int .i64 x.arg, .int .u32 (x.num : Nat), .int .u32 (p.val : Nat)] W2 (Fold.RetBo true W2))
        have HCS := Lib.hid hCS
        clear hO hB hX hc hp hps hpv hW2 hB2 hP2 hX2 hBq hO2 hkm hst hCT HO hb hdone hp1 hst2 HST h3 hCS
        rcases hsplit with ⟨h3, ht⟩ | h3
        case' inl =>
          have g3 : (x.kind == 3) = true := by rw [beq_iff_eq]; exact h3
          have HCS3 := Lib.hid (HCS.out ht)
          clear h3 ht HCS
          go_upto_region 5 with fail
          rw [HW2.out]
          go_wp2_with fail
          refine HCS3.out.mono ?_
          rintro e w2 ⟨rfl, rfl⟩
          clear HCS3
          go_wp2_with fail
        case' inr =>
          have g3 : (x.kind == 3) = false := by rw [beq_eq_false_iff_ne]; exact h3
          clear h3 HCS
          go_upto_region 5 with fail
          rw [HW2.out]
          go_wp2_with fail
        all_goals
          refine wp_region_noPanic ?_
          refine wp_region_held_tail (C := fun w' => w'.heap[q]? = some (opObj x u) ∧ w'.heap[wr.heap.size]? = some (prObj p)) [0, 1, 2, 3, 4, 5] [6, 7, 8, 9, 10] 10 (by kernel_rfl) (by kernel_rfl) (fun _ _ _ _ _ h => h) ?_ ?_
          · exact ⟨HX2.out, HP2.out⟩
          iterate 6
            refine heldI_step (v := ?_) rfl (by rfl) (fun w' hw' => ?_) ?_
            rotate_left
            · obtain ⟨⟨k0, k1, k2, k3, k4, k5, k6⟩, k7, k8⟩ := HC.out w' hw'
              go_simp
              all_goals with_reducible rfl
            simp only [Act.put, List.getElem_toArray, List.getElem_cons_succ, List.getElem_cons_zero, List.setIfInBounds_toArray, List.set_cons_succ, List.set_cons_zero]
          refine heldI_nil ?_
          refine seqI_step rfl ?_
          simp only [List.getElem_toArray, List.getElem_cons_succ, List.getElem_cons_zero]
          go_wp2_with (go_at_call 114; ((with_reducible refine HCT.out.mono ?_); rintro e W3 ⟨rfl, hB3⟩))
          have hs3 : W2.heap.size ≤ W3.heap.size := hB3.size
          have hC3 : W3.heap[q]? = some (opObj x u) ∧ W3.heap[wr.heap.size]? = some (prObj p) := ⟨(hB3.block q (by have h := HS2.out; show q < W2.heap.size; omega)).trans HX2.out, (hB3.block _ HS2.out).trans HP2.out⟩
          have HC3 := Lib.hid hC3
          have hO3 : OwnP W3 (q + 1) (.slice Ac m cc) (passedN x (l.take k)) := (HO2.out.keep (W' := W2.drew) fun _ _ => rfl).below hB3
          have hB3q : Below q w W3 := HBq.out.trans ((⟨hB3.os, hB3.tape, hB3.output, hB3.size, hB3.block⟩ : Below W2.heap.size W2 W3).mono (by have h := HS2.out; omega))
          obtain ⟨A4, c4, W4, R4, O4, G4, hc4⟩ := hO3.put (by have h := HS2.out; omega) ⟨p.key, turnN x p.val⟩ 41 (by rw [HM.out]; exact HLE.out)
          rw [HM.out] at R4 O4 hc4
          have hC4a : (W3.alloc (.cells #[.string p.key, .int .u32 (turnN x p.val : Nat)] 47)).heap[q]? = some (opObj x u) ∧ (W3.alloc (.cells #[.string p.key, .int .u32 (turnN x p.val : Nat)] 47)).heap[wr.heap.size]? = some (prObj p) := ⟨(Below.heap_alloc _ _ _ (lt_of_some hC3.1)).trans hC3.1, (Below.heap_alloc _ _ _ (lt_of_some hC3.2)).trans hC3.2⟩
          have hne : some wr.heap.size ≠ (Value.slice Ac m cc).ownBlock := fun e => by have := (HO.out.1.own e.symm).2; omega
          have hC4 : W4.heap[q]? = some (opObj x u) ∧ W4.heap[wr.heap.size]? = some (prObj p) := ⟨(G4.block q (lt_of_some hC3.1) (ownP_lt hO3 (by omega))).trans hC3.1, (G4.block _ (lt_of_some hC3.2) hne).trans hC3.2⟩
          have HC4a := Lib.hid hC4a
          have HC4 := Lib.hid hC4
          have R4' := Lib.hid R4
          have HO4 : Hid (OwnP W4 (q + 1) (.slice A4 (m + 1) c4) (passedN x (l.take (k + 1)))) := Lib.hid (by rw [HST2.out]; exact O4)
          have HB4 : Hid (Below q w W4 ∧ q + 1 ≤ W4.heap.size) := Lib.hid ⟨grown_below hB3q G4 hO3 (by omega) (by have h := HS2.out; omega), by have h := HS2.out; have := G4.size; omega⟩
          clear hB3 hC3 hO3 hB3q R4 O4 G4 hc4 hC4a hne hC4
          refine ⟨HC3.out, ?_⟩
          refine seqI_step rfl ?_
          simp only [List.getElem_toArray, List.getElem_cons_succ, List.getElem_cons_zero]
          go_wp2_with fail
          refine ⟨HC3.out, ?_⟩
          refine seqI_step rfl ?_
          simp only [List.getElem_toArray, List.getElem_cons_succ, List.getElem_cons_zero]
          go_wp2_with fail
          refine ⟨HC4a.out, ?_⟩
          refine seqI_step rfl ?_
          simp only [List.getElem_toArray, List.getElem_cons_succ, List.getElem_cons_zero]
          go_wp2_with (at_builtin; refine wpList_append_ran rfl _ _ _ rfl rfl rfl R4'.out ?_)
          refine ⟨HC4.out, ?_⟩
          refine seqI_last rfl ?_
          simp only [List.getElem_toArray, List.getElem_cons_succ, List.getElem_cons_zero]
          go_wp2_with fail
          refine NoPanic.normal ?_
          go_wp2_with fail
          go_roundw
          case rel => exact ⟨k + 1, m + 1, c4, A4, by go_num, HK1.out, rfl, Lib.hid (by rw [HST2.out, List.length_append, HM.out]; rfl), Lib.hid ⟨HO4.out, HB4.out.1, HC4.out.1, HB4.out.2⟩⟩
          case measure => have h := HK1.out; simp [intOf]; omega
    · obtain rfl : k = n := by omega
      obtain ⟨hO, hB, hX, hs⟩ := HO.out
      have hfin : RetP (passedN x l) w (.returned (.slice Ac m cc)) wr := ⟨_, rfl, (by rw [List.take_of_length_le (by rw [HN.out]; exact Nat.le_refl _)] at hO; exact hO.base (by rw [HQ.out]; omega)), by rw [HQ.out]; exact hB⟩
      have HF := Lib.hid hfin
      clear hO hB hX hfin HO
      go_wp2_with fail
      go_ret
      exact HF.out

end Go.Proofs.Ytmfndimejnbgkaa.Model
