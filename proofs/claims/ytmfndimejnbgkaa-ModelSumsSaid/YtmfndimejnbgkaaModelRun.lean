/-
  Contract of the model's Run.
-/
import Derived.Test.YtmfndimejnbgkaaModelBehind
namespace Go.Proofs.Ytmfndimejnbgkaa.Model
open Go Go.RowKit Go.Lib Go.Sort Go.Shelf Go.Maps Go.Proofs.Ytmfndimejnbgkaa.Law Go.Proofs.Ytmfndimejnbgkaa.Graph Go.Proofs.Ytmfndimejnbgkaa.Fold

/-- What Run answers, in new memory. -/
def RetRun (l : List Opr) (st : List (List Pr)) (recs : List Rc) (w : World) (e : Ending) (W : World) : Prop :=
  ∃ pv fv er out nx, e = .returned (.tuple #[pv, .agg #[fv], .int .i64 er]) ∧ RunR l st recs er out nx ∧ OwnP W w.heap.size pv out ∧ FoldsOwn W w.heap.size fv nx ∧ Below w.heap.size w W
theorem FoldsOwn.nil (W : World) (base : Nat) : FoldsOwn W base (.slice none 0 0) [] := ⟨[], rfl, OwnRow.nil _ _ _, fun j u p h _ => by simp at h⟩
/-- The fitting of a state to a graph. -/
theorem foldsL_length {l : List Opr} {st : List (List Pr)} (h : goodS l st) : (foldsL l st).length = l.length := by
  unfold foldsL
  split
  · simp
  · rename_i h0
    rcases h with h | h
    · exact absurd h h0
    · exact h.1
theorem foldsL_mem {l : List Opr} {st : List (List Pr)} {p : List Pr} (h : p ∈ foldsL l st) : p = [] ∨ p ∈ st := by
  unfold foldsL at h
  split at h
  · exact .inl (List.mem_replicate.1 h).2
  · exact .inr h

set_option maxRecDepth 100000 in
set_option maxHeartbeats 16000000 in
theorem run_calls (l : List Opr) (st : List (List Pr)) (recs : List Rc) (hl : l.length * 72 ≤ 140737488351232) (hin : ∀ x ∈ l, x.ins.length * 8 ≤ 140737488351232) (hnum : ∀ x ∈ l, x.num < 4294967296 ∧ x.lim < 4294967296) (hst : st.length * 24 ≤ 140737488351232)
    (hkl : ∀ p ∈ st, p.length * 24 ≤ 140737488351232) (hwk : ∀ p ∈ st, wfP p) (hwr : wfR recs) (hrl : recs.length * 48 ≤ 140737488351232) (gv sv rv : Value) (w : World) (hG : OldO w.heap.size w gv l) (hS : OldF w.heap.size w sv st) (hR : OldRc w.heap.size w rv recs) :
    Calls Try.prog 13 #[.agg #[gv], .agg #[sv], rv] w (RetRun l st recs w) := by
  obtain ⟨GA, gcap, rfl, hgcap⟩ := hG.form
  obtain ⟨SA, scap, rfl, hscap⟩ := hS.form
  obtain ⟨RA, rcap, rfl, hrcap⟩ := hR.form
  obtain ⟨n, hn⟩ : ∃ n, l.length = n := ⟨_, rfl⟩
  obtain ⟨sn, hsn⟩ : ∃ sn, st.length = sn := ⟨_, rfl⟩
  obtain ⟨rn, hrn⟩ : ∃ rn, recs.length = rn := ⟨_, rfl⟩
  obtain ⟨q, hq⟩ : ∃ q, w.heap.size = q := ⟨_, rfl⟩
  have CC := fun W hW => check_calls l (by omega) (fun x hx => by have := hin x hx; omega) (.slice GA l.length gcap) W hW
  obtain ⟨bg, hbg⟩ := exB (goodS l st)
  have CG := fun W (hB : Below w.heap.size w W) => good_calls l st (by omega) (by omega) (fun p hp => by have := hkl p hp; omega) bg hbg _ _ W ((OpsAt.low hB hG).mono fun _ hb => Nat.lt_of_lt_of_le hb hB.size) ((FoldsAt.low hB hS).mono fun _ hb => Nat.lt_of_lt_of_le hb hB.size)
  have CK := fun W (hB : Below w.heap.size w W) => CC W ((OpsAt.low hB hG).mono fun _ hb => Nat.lt_of_lt_of_le hb hB.size)
  clear CC
  rw [hn] at hG hgcap CG CK ⊢
  rw [hsn] at hS hscap CG ⊢
  rw [hrn] at hR hrcap ⊢
  obtain ⟨W1, hW1⟩ : ∃ W1, ((w.alloc (gObj (.slice GA n gcap))).alloc (sObj (.slice SA sn scap))).alloc (sObj (.slice none 0 0)) = W1 := ⟨_, rfl⟩
  have hB1 : Below q w W1 := by rw [← hW1, ← hq]; exact (((Below.refl _ _).alloc (Nat.le_refl _) _).alloc (by simp) _).alloc (by simp <;> omega) _
  have hs1 : W1.heap.size = q + 3 := by rw [← hW1, ← hq]; simp
  have hg1 : W1.heap[q]? = some (gObj (.slice GA n gcap)) := by rw [← hW1, ← hq]; exact (Below.heap_alloc _ _ _ (by simp <;> omega)).trans ((Below.heap_alloc _ _ _ (by simp)).trans (heap_alloc_new w _))
  have hv1 : W1.heap[q + 1]? = some (sObj (.slice SA sn scap)) := by
    rw [← hW1, ← hq]
    have := heap_alloc_new (w.alloc (gObj (.slice GA n gcap))) (sObj (.slice SA sn scap))
    rw [World.size_alloc] at this
    exact (Below.heap_alloc _ _ _ (by simp)).trans this
  have hr1 : W1.heap[q + 2]? = some (sObj (.slice none 0 0)) := by
    rw [← hW1, ← hq]
    have := heap_alloc_new ((w.alloc (gObj (.slice GA n gcap))).alloc (sObj (.slice SA sn scap))) (sObj (.slice none 0 0))
    rwa [World.size_alloc, World.size_alloc] at this
  obtain ⟨c0, _⟩ := box1 hg1
  have CK1 := Lib.hid (CK W1 (hq ▸ hB1))
  have HCG := Lib.hid CG
  have HW1 := Lib.hid hW1
  have HB1 := Lib.hid hB1
  have HQ := Lib.hid hq
  have HS1 := Lib.hid hs1
  have HG1 := Lib.hid hg1
  have HV1 := Lib.hid hv1
  have HR1 := Lib.hid hr1
  have HG := Lib.hid hG
  have HS := Lib.hid hS
  have HR := Lib.hid hR
  have HN := Lib.hid hn
  have HSN := Lib.hid hsn
  have HRN := Lib.hid hrn
  have HBG := Lib.hid hbg
  have HNUM := Lib.hid hnum
  have HKL := Lib.hid hkl
  have HWK := Lib.hid hwk
  have HWR := Lib.hid hwr
  have hnn : n ≤ 1954687338269 := by omega
  have hrr : rn ≤ 2932031007317 := by omega
  have hss : sn ≤ 5864062014805 := by omega
  -- the end of a refusal
  have HERR : Hid (∀ (W : World) (er : Int), Below q w W → W.heap[q + 2]? = some (sObj (.slice none 0 0)) → RunR l st recs er [] [] → RetRun l st recs w (.returned (.tuple #[.slice none 0 0, .agg #[.slice none 0 0], .int .i64 er])) (W.setCell ⟨q + 2, 0, none⟩ (.slice none 0 0)) ∧ (W.setCell ⟨q + 2, 0, none⟩ (.slice none 0 0)).cell? ⟨q + 2, 0, none⟩ = some (.slice none 0 0) ∧ W.frozen? ⟨q + 2, 0, none⟩ = false ∧ W.cell? ⟨q + 2, 0, none⟩ = some (.slice none 0 0)) := Lib.hid fun W er hB hr hrun => by
    have hg : W.grownBy (W.setCell ⟨q + 2, 0, none⟩ (.slice none 0 0)) (some (q + 2)) := grownBy_setCell' _ _ _
    have h2 := stored1 hr (.slice none 0 0)
    obtain ⟨f0, f1⟩ := box1 hr
    refine ⟨⟨_, _, er, [], [], rfl, hrun, OwnTwo.nil _ _ _, FoldsOwn.nil _ _, ?_⟩, (box1 h2).1, f1, f0⟩
    rw [hq]
    exact hB.grown hg (by have := lt_of_some hr; omega) (fun j hj => by cases hj; omega)
  clear hW1 hB1 hs1 hg1 hv1 hr1 hG hS hR hn hsn hrn hbg hnum hkl hwk hwr CG CK hq hl hin hst hrl
  go_enter Try.func13, Try.ntmps13
  go_upto_region 1 with fail
  rw [HW1.out, HQ.out]
  go_wp2_with fail
  refine CK1.out.mono ?_
  rintro e w2 ⟨i0, er, rfl, hchk, hB2⟩
  have hBw2 : Below q w w2 := HB1.out.trans (hB2.mono (by have := HS1.out; omega))
  have k2 : w2.heap[q + 2]? = some (sObj (.slice none 0 0)) := (hB2.block _ (by have := HS1.out; omega)).trans HR1.out
  by_cases her : er = 0
  · subst her
    have hgood : goodG l := hchk.good.1 rfl
    have k0 : w2.heap[q]? = some (gObj (.slice GA n gcap)) := (hB2.block _ (by have := HS1.out; omega)).trans HG1.out
    have k1 : w2.heap[q + 1]? = some (sObj (.slice SA sn scap)) := (hB2.block _ (by have := HS1.out; omega)).trans HV1.out
    obtain ⟨c0', _⟩ := box1 k0
    obtain ⟨c1', _⟩ := box1 k1
    have CG2 := Lib.hid (HCG.out w2 (by rw [HQ.out]; exact hBw2))
    have HGD := Lib.hid hgood
    have HK0 := Lib.hid k0
    have HK1 := Lib.hid k1
    have HK2 := Lib.hid k2
    have HBW2 := Lib.hid hBw2
    have HS2 : Hid (q + 3 ≤ w2.heap.size) := Lib.hid (by have := hB2.size; have := HS1.out; omega)
    clear hchk hB2 hBw2 k2 hgood k0 k1 CK1 HCG c0
    go_wp2_with fail
    refine CG2.out.mono ?_
    rintro e w3 ⟨rfl, hB3⟩
    have hBw3 : Below q w w3 := HBW2.out.trans (hB3.mono (by have := HS2.out; omega))
    have k2 : w3.heap[q + 2]? = some (sObj (.slice none 0 0)) := (hB3.block _ (by have := HS2.out; omega)).trans HK2.out
    cases bg with
    | false =>
      obtain ⟨h1, h2, h3, h4⟩ := HERR.out w3 3 hBw3 k2 (.inr (.inl ⟨HGD.out, (fun h => by have := HBG.out.2 h; cases this), rfl, rfl, rfl⟩))
      have H1 := Lib.hid h1
      clear h1 hB3 hBw3 k2
      go_wp2_with fail
      refine bodyPost_ret (v := .tuple #[.slice none 0 0, .agg #[.slice none 0 0], .int .i64 3]) (by simp [results, Try.results13, go_sem, h2]) rfl H1.out
    | true =>
      have hgs : goodS l st := HBG.out.1 rfl
      have HGS := Lib.hid hgs
      have k0 : w3.heap[q]? = some (gObj (.slice GA n gcap)) := (hB3.block _ (by have := HS2.out; omega)).trans HK0.out
      have k1 : w3.heap[q + 1]? = some (sObj (.slice SA sn scap)) := (hB3.block _ (by have := HS2.out; omega)).trans HK1.out
      have HBW3 := Lib.hid hBw3
      have HS3 : Hid (q + 3 ≤ w3.heap.size) := Lib.hid (by have := hB3.size; have := HS2.out; omega)
      by_cases hr512 : 512 < rn
      · obtain ⟨h1, h2, h3, h4⟩ := HERR.out w3 2 hBw3 k2 (.inr (.inr (.inl ⟨HGD.out, hgs, .inl (by rw [HRN.out]; exact hr512), rfl, rfl, rfl⟩)))
        have H1 := Lib.hid h1
        have hrI : (512 : Int) < (rn : Int) := by omega
        clear h1 hB3 hBw3 k2 hgs k0 k1
        go_wp2_with fail
        refine bodyPost_ret (v := .tuple #[.slice none 0 0, .agg #[.slice none 0 0], .int .i64 2]) (by simp [results, Try.results13, go_sem, h2]) rfl H1.out
      · have hrI : ¬ (512 : Int) < (rn : Int) := by omega
        have hrd : decide (512 < rn) = false := decide_eq_false hr512
        obtain ⟨c0, _⟩ := box1 k0
        obtain ⟨c1, f1⟩ := box1 k1
        have HK0 := Lib.hid k0
        have HK1 := Lib.hid k1
        have HK2 := Lib.hid k2
        clear c0' c1' hB3 hBw3 k2 hgs k0 k1 CG2
        have hlenS : sn = 0 ∨ sn = n := by
          rcases HGS.out with h | ⟨h, _⟩
          · exact .inl (by rw [← HSN.out]; exact h)
          · exact .inr (by rw [← HSN.out, ← HN.out]; exact h)
        have CE := Lib.hid (empty_calls GA n gcap (by omega) w3)
        rcases Nat.eq_zero_or_pos sn with h0 | h0
        case' inl =>
          subst h0
          clear hlenS
          go_wp2_with fail
          refine CE.out.mono ?_
          rintro e w4 ⟨eb, rfl, hE, hB4⟩
          have k0 : w4.heap[q]? = some (gObj (.slice GA n gcap)) := (hB4.block _ (by have := HS3.out; omega)).trans HK0.out
          have k1 : w4.heap[q + 1]? = some (sObj (.slice SA 0 scap)) := (hB4.block _ (by have := HS3.out; omega)).trans HK1.out
          have k2 : w4.heap[q + 2]? = some (sObj (.slice none 0 0)) := (hB4.block _ (by have := HS3.out; omega)).trans HK2.out
          obtain ⟨f0, f1⟩ := box1 k1
          obtain ⟨W5, hW5⟩ : ∃ W5, w4.setCell ⟨q + 1, 0, none⟩ (.slice (some ⟨eb, 0, none⟩) n n) = W5 := ⟨_, rfl⟩
          have hg5 : w4.grownBy W5 (some (q + 1)) := by rw [← hW5]; exact grownBy_setCell' _ _ _
          have HX0 : Hid (W5.heap[q]? = some (gObj (.slice GA n gcap))) := Lib.hid ((hg5.block q (lt_of_some k0) (fun e => by have := Option.some.inj e; omega)).trans k0)
          have HX1 : Hid (W5.heap[q + 1]? = some (sObj (.slice (some ⟨eb, 0, none⟩) n n))) := Lib.hid (by rw [← hW5]; exact stored1 k1 _)
          have HX2 : Hid (W5.heap[q + 2]? = some (sObj (.slice none 0 0))) := Lib.hid ((hg5.block _ (lt_of_some k2) (fun e => by have := Option.some.inj e; omega)).trans k2)
          have HFS : Hid (FoldsAt (fun b => b < W5.heap.size) W5 (.slice (some ⟨eb, 0, none⟩) n n) (foldsL l st)) := Lib.hid (by
            have e1 : foldsL l st = List.replicate n [] := by unfold foldsL; rw [if_pos HSN.out, HN.out]
            rw [e1]
            exact (hE.folds.keep (T := fun b => b < W5.heap.size) (fun j hj => hg5.block j hj.2 (fun e => by have := Option.some.inj e; have := HS3.out; omega)) (fun j hj => Nat.lt_of_lt_of_le hj.2 hg5.size)))
          have HBW5 : Hid (Below q w W5) := Lib.hid ((HBW3.out.trans (hB4.mono (by have := HS3.out; omega))).grown hg5 (by have := lt_of_some k0; omega) (fun j hj => by cases hj; omega))
          obtain ⟨SB, hSB⟩ : ∃ SB : Option Addr, SB = some ⟨eb, 0, none⟩ := ⟨_, rfl⟩
          obtain ⟨sb5, hsb5⟩ : ∃ sb5, sb5 = n := ⟨_, rfl⟩
          have HSC : Hid (n ≤ sb5) := Lib.hid (by omega)
          rw [← hSB] at hW5 HX1 HFS ⊢
          have hW5' : w4.setCell ⟨q + 1, 0, none⟩ (.slice SB n sb5) = W5 := by rw [hsb5]; exact hW5
          have HX1 : Hid (W5.heap[q + 1]? = some (sObj (.slice SB n sb5))) := Lib.hid (by rw [hsb5]; exact HX1.out)
          have HFS : Hid (FoldsAt (fun b => b < W5.heap.size) W5 (.slice SB n sb5) (foldsL l st)) := Lib.hid (by rw [hsb5]; exact HFS.out)
          have HW5 := Lib.hid hW5
          clear k0 k1 k2 hg5 hE hB4 hW5 hW5' c0 c1 hSB hsb5
          go_upto_region 10 with fail
          rw [HW5.out]
        case' inr =>
          have h0n : ¬ sn = 0 := by omega
          have e0 : ((sn : Int) == 0) = false := by rw [beq_eq_false_iff_ne]; omega
          obtain rfl : n = sn := (hlenS.resolve_left h0n).symm
          obtain ⟨W5, rfl⟩ : ∃ W5, W5 = w3 := ⟨_, rfl⟩
          have HX0 := HK0
          have HX2 := HK2
          have HBW5 := HBW3
          obtain ⟨SB, rfl⟩ : ∃ SB, SB = SA := ⟨_, rfl⟩
          obtain ⟨sb5, rfl⟩ : ∃ sb5, sb5 = scap := ⟨_, rfl⟩
          have HX1 := HK1
          have HSC : Hid (n ≤ sb5) := Lib.hid hscap
          have HFS : Hid (FoldsAt (fun b => b < W5.heap.size) W5 (.slice SB n sb5) (foldsL l st)) := Lib.hid (by
            have e1 : foldsL l st = st := by unfold foldsL; rw [if_neg (by rw [HSN.out]; exact h0n)]
            rw [e1]
            exact HS.out.keep (fun j hj => HBW3.out.block j (by have := HQ.out; omega)) (fun j hj => by have := HQ.out; have := HS3.out; omega))
          clear hlenS h0n h0
          go_upto_region 10 with fail
          clear c0 c1 f1 e0
        all_goals
          obtain ⟨fq, hfq⟩ : ∃ fq, W5.heap.size = fq := ⟨_, rfl⟩
          have hgd := HGD.out
          have hn1 : 1 ≤ n ∧ n ≤ 16 := by have h1 := hgd.1; have h2 := hgd.2.1; rw [HN.out] at h1 h2; exact ⟨h1, h2⟩
          have hfl : (foldsL l st).length = n := (foldsL_length HGS.out).trans HN.out
          have hX0 := HX0.out
          have hX1 := HX1.out
          obtain ⟨c0, _⟩ := box1 hX0
          obtain ⟨c1, _⟩ := box1 hX1
          have hqf : q + 3 ≤ fq := by have := lt_of_some HX2.out; omega
          have CFN := Lib.hid (finder_calls (.slice GA n gcap) (.slice SB n sb5) (.slice RA rn rcap) GA SB RA n gcap n sb5 rn rcap W5 rfl rfl rfl (pairsAt l (foldsL l st) recs))
          have HFQ := Lib.hid hfq
          have HQF := Lib.hid hqf
          have HFL := Lib.hid hfl
          clear hfq hX0 hX1 hgd hfl
          go_wp2_with fail
          refine CFN.out.mono ?_
          rintro e W6 ⟨rfl, hF6, hB6⟩
          rw [HFQ.out] at hF6 hB6
          have hs6 := hF6.size
          have g6 : W6.heap[q]? = some (gObj (.slice GA n gcap)) := (hB6.block q (by omega)).trans HX0.out
          obtain ⟨c2, _⟩ := box1 g6
          have HB6 := Lib.hid hB6
          have HF6 := Lib.hid hF6
          have H0 : Hid (∃ F, Fnd W6 fq (.slice GA n gcap) (.slice SB n sb5) (.slice RA rn rcap) 0 F (pairsAt l (foldsL l st) recs) ∧ (∀ j, j < 0 → (pairsAt l (foldsL l st) recs j).length ≤ 4096) ∧ W6.grownBy W6 (some (fq + 3))) := Lib.hid ⟨_, hF6, fun j h => absurd h (Nat.not_lt_zero _), rfl, rfl, rfl, Nat.le_refl _, fun _ _ _ => rfl⟩
          have hwfa := pairsAt_wf (g := l) (st := foldsL l st) (recs := recs) (fun x hx => (HNUM.out x hx).1) HWR.out (fun p hp => by
            rcases foldsL_mem hp with rfl | h
            · exact wfP.nil
            · exact HWK.out p h)
          have HWFA := Lib.hid hwfa
          clear hF6 hB6 g6 CFN hwfa c0 c1
          rw [HFQ.out]
          go_wp2_with fail
          go_loopw [43] (fun i wr => ∃ k : Nat, i = .int .i64 k ∧ k ≤ n ∧ Hid (∃ F, Fnd wr fq (.slice GA n gcap) (.slice SB n sb5) (.slice RA rn rcap) k F (pairsAt l (foldsL l st) recs) ∧ (∀ j, j < k → (pairsAt l (foldsL l st) recs j).length ≤ 4096) ∧ W6.grownBy wr (some (fq + 3)))) (fun i _ => n - (intOf i).toNat)
          case atStart => exact ⟨0, rfl, Nat.zero_le _, H0⟩
          case round =>
            obtain ⟨k, rfl, hk, HO⟩ := hrel
            obtain ⟨F, hF, hlen, hGr⟩ := HO.out
            have hgs := hGr.size
            have same : ∀ j, j < fq → wr.heap[j]? = W5.heap[j]? := fun j hj => (hGr.block j (by omega) (fun e => by have := Option.some.inj e; omega)).trans (HB6.out.block j hj)
            have sameW : ∀ j, j < q → wr.heap[j]? = w.heap[j]? := fun j hj => (same j (by have := HQF.out; omega)).trans (HBW5.out.block j hj)
            have hqf := HQF.out
            have hGw : OpsAt (fun b => b < fq) wr (.slice GA n gcap) l := HG.out.keep (fun j hj => sameW j (by have := HQ.out; omega)) (fun j hj => by have := HQ.out; omega)
            have hRw : RecsAt (fun b => b < fq) wr (.slice RA rn rcap) recs := HR.out.keep (fun j hj => sameW j (by have := HQ.out; omega)) (fun j hj => by have := HQ.out; omega)
            have hSw : FoldsAt (fun b => b < fq) wr (.slice SB n sb5) (foldsL l st) := HFS.out.keep (fun j hj => same j (by have := HFQ.out; omega)) (fun j hj => by have := HFQ.out; omega)
            have k2 : wr.heap[q + 2]? = some (sObj (.slice none 0 0)) := (same (q + 2) (by omega)).trans HX2.out
            have hBw : Below q w wr := by
              have h1 : Below q w W6 := HBW5.out.trans (HB6.out.mono (by omega))
              exact h1.grown hGr (by omega) (fun j hj => by cases hj; omega)
            by_cases hlt : k < n
            · obtain ⟨x, hx⟩ : ∃ x, l[k]? = some x := ⟨_, List.getElem?_eq_getElem (by rw [HN.out]; exact hlt)⟩
              obtain ⟨kept, hkept⟩ : ∃ kept, (foldsL l st)[k]? = some kept := ⟨_, List.getElem?_eq_getElem (by rw [HFL.out]; exact hlt)⟩
              have hmem := foldsL_mem (List.mem_of_getElem? hkept)
              have hnum := HNUM.out x (List.mem_of_getElem? hx)
              have CNW := Lib.hid (new_calls l (foldsL l st) recs wr hF hGw hSw hRw x hx (HGD.out.2.2 k (by rw [HN.out]; exact hlt) x hx) (by rw [HN.out]; exact hn1.2) (by rw [HFL.out, HN.out]) hnum.1 hnum.2 hlen HWFA.out kept hkept (by
                rcases hmem with rfl | h
                · exact wfP.nil
                · exact HWK.out _ h) (by
                rcases hmem with rfl | h
                · simp
                · exact HKL.out _ h) (by rw [HRN.out]; omega))
              have HK1 : Hid (k + 1 ≤ n) := Lib.hid hlt
              have HSZ : Hid (fq + 6 ≤ wr.heap.size) := Lib.hid hF.size
              have HLEN := Lib.hid hlen
              have HGR := Lib.hid hGr
              have HBW := Lib.hid hBw
              have HK2 := Lib.hid k2
              clear hx hkept hmem hnum hF hlen hGr same sameW hGw hRw hSw k2 hBw HO hgs
              go_wp2_with fail
              refine CNW.out.mono ?_
              rintro e W7 ⟨v, F', rfl, hF7, _, _, hO7, hG7⟩
              obtain ⟨A7, c7, rfl, _⟩ := hO7.form
              obtain ⟨ln, hln⟩ : ∃ ln, (pairsAt l (foldsL l st) recs k).length = ln := ⟨_, rfl⟩
              rw [hln]
              have hBw7 : Below q w W7 := HBW.out.grown hG7 (by have := HSZ.out; omega) (fun j hj => by cases hj; omega)
              have k2 : W7.heap[q + 2]? = some (sObj (.slice none 0 0)) := (hG7.block _ (lt_of_some HK2.out) (fun e => by have := Option.some.inj e; omega)).trans HK2.out
              by_cases h4096 : 4096 < ln
              · have hI : (4096 : Int) < (ln : Int) := by omega
                obtain ⟨h1, h2, h3, h4⟩ := HERR.out W7 2 hBw7 k2 (.inr (.inr (.inl ⟨HGD.out, HGS.out, .inr ⟨k, by rw [HN.out]; exact hlt, by rw [hln]; exact h4096⟩, rfl, rfl, rfl⟩)))
                have H1 := Lib.hid h1
                clear h1 hF7 hO7 hG7 hln hBw7 k2 CNW
                go_wp2_with fail
                refine bodyPost_ret (v := .tuple #[.slice none 0 0, .agg #[.slice none 0 0], .int .i64 2]) (by simp [results, Try.results13, go_sem, h2]) rfl H1.out
              · have hI : ¬ (4096 : Int) < (ln : Int) := by omega
                have hD : decide (4096 < ln) = false := decide_eq_false h4096
                have HF : Hid (∃ F, Fnd W7 fq (.slice GA n gcap) (.slice SB n sb5) (.slice RA rn rcap) (k + 1) F (pairsAt l (foldsL l st) recs) ∧ (∀ j, j < k + 1 → (pairsAt l (foldsL l st) recs j).length ≤ 4096) ∧ W6.grownBy W7 (some (fq + 3))) := Lib.hid ⟨F', hF7, fun j hj => by
                  by_cases hjk : j = k
                  · subst hjk; omega
                  · exact HLEN.out j (by omega), HGR.out.trans hG7⟩
                clear hF7 hO7 hG7 hln hBw7 k2 CNW
                go_wp2_with fail
                go_roundw
                case rel => exact ⟨k + 1, by go_num, HK1.out, HF⟩
                case measure => have h := HK1.out; simp [intOf]; omega
            · obtain rfl : k = n := by omega
              obtain ⟨m, hkm⟩ : ∃ m, k = m + 1 := ⟨k - 1, by omega⟩
              have hmn : m < k := by omega
              obtain ⟨vm, hvm, hOm⟩ := hF.hit m hmn
              have hlm := hlen m hmn
              have hsub : (k : Int) - 1 = (m : Int) := by omega
              have g0 : wr.heap[q]? = some (gObj (.slice GA k gcap)) := (same q (by omega)).trans HX0.out
              have g1 : wr.heap[q + 1]? = some (sObj (.slice SB k sb5)) := (same (q + 1) (by omega)).trans HX1.out
              have hBD : Below wr.heap.size wr wr.drew := (Below.refl _ _).drew
              have CHT := Lib.hid (hit_calls wr.drew (hF.below hBD) hn1.2 m hmn vm hvm)
              have COR := Lib.hid (order_calls (pairsAt l (foldsL l st) recs m) (by omega) vm wr.drew (TwoAt.on hBD hOm.old))
              have hsz := hF.size
              have CBH : Hid (∀ W : World, Below wr.heap.size wr W → Calls Try.prog 36 #[.agg #[.slice GA k gcap], .agg #[.slice SB k sb5], fnV fq] W (RetS (stateN l (foldsL l st) recs) W)) := Lib.hid fun W hW => behind_calls l (foldsL l st) recs W (by rw [HN.out]; exact hF.below hW) (hGw.keep (fun j hj => hW.block j (by omega)) (fun _ h => h)) (hSw.keep (fun j hj => hW.block j (by omega)) (fun _ h => h)) (by rw [HN.out]; exact hn1.2) (by rw [HFL.out, HN.out]) (fun i hi => hlen i (by rw [HN.out] at hi; exact hi)) HWFA.out (fun p hp => by
                  rcases foldsL_mem hp with rfl | h
                  · exact wfP.nil
                  · exact HWK.out p h) (fun p hp => by
                  rcases foldsL_mem hp with rfl | h
                  · simp
                  · exact HKL.out p h)
              have HCB : Hid (∀ w' : World, (w'.heap[q]? = some (gObj (.slice GA k gcap)) ∧ w'.heap[q + 1]? = some (sObj (.slice SB k sb5))) → w'.cell? ⟨q, 0, none⟩ = some (.slice GA k gcap) ∧ w'.cell? ⟨q + 1, 0, none⟩ = some (.slice SB k sb5)) := Lib.hid fun w' hw' => ⟨(box1 hw'.1).1, (box1 hw'.2).1⟩
              have HRUN : Hid (∀ nx out, out = ordN (pairsAt l (foldsL l st) recs m) → nx = stateN l (foldsL l st) recs → RunR l st recs 0 out nx) := Lib.hid fun nx out h1 h2 => .inr (.inr (.inr ⟨HGD.out, HGS.out, by rw [HRN.out]; omega, fun i hi => hlen i (by rw [HN.out] at hi; exact hi), rfl, by rw [h1, HN.out, hkm]; rfl, h2⟩))
              have HG01 := Lib.hid (And.intro g0 g1)
              have HK2 := Lib.hid k2
              have HBW := Lib.hid hBw
              have HSZ := Lib.hid hsz
              obtain ⟨Am, nm, cm, rfl⟩ : ∃ Am nm cm, vm = .slice Am nm cm := by obtain ⟨A, c, h, _⟩ := hOm.form; exact ⟨A, _, c, h⟩
              clear hF hlen hGr same sameW hGw hRw hSw k2 hBw HO hgs hvm hOm hlm g0 g1 hBD hkm hsz
              go_wp2_with fail
              refine wp_region_noPanic ?_
              refine wp_region_held_tail (C := fun w' => w'.heap[q]? = some (gObj (.slice GA k gcap)) ∧ w'.heap[q + 1]? = some (sObj (.slice SB k sb5))) [0, 1, 2, 3, 4, 7, 8, 9] [5, 6, 10, 11, 12, 13] 13 (by kernel_rfl) (by kernel_rfl) (fun _ _ _ _ _ h => h) ?_ ?_
              · exact HG01.out
              iterate 8
                refine heldI_step (v := ?_) rfl (by rfl) (fun w' hw' => ?_) ?_
                rotate_left
                · obtain ⟨k0, k1⟩ := HCB.out w' hw'
                  go_simp
                  all_goals with_reducible rfl
                simp only [Act.put, List.getElem_toArray, List.getElem_cons_succ, List.getElem_cons_zero, List.setIfInBounds_toArray, List.set_cons_succ, List.set_cons_zero]
              refine heldI_nil ?_
              refine seqI_step rfl ?_
              simp only [List.getElem_toArray, List.getElem_cons_succ, List.getElem_cons_zero]
              go_wp2_with fail
              refine CHT.out.mono ?_
              rintro e W7 ⟨rfl, rfl⟩
              go_wp2_with fail
              refine ⟨HG01.out, ?_⟩
              refine seqI_step rfl ?_
              simp only [List.getElem_toArray, List.getElem_cons_succ, List.getElem_cons_zero]
              go_wp2_with fail
              refine COR.out.mono ?_
              rintro e W8 ⟨pv, rfl, hO8, hB8⟩
              have hB8' : Below wr.heap.size wr W8 := ⟨hB8.os, hB8.tape, hB8.output, hB8.size, hB8.block⟩
              have CB8 := Lib.hid (CBH.out W8 hB8')
              have hG8 : W8.heap[q]? = some (gObj (.slice GA k gcap)) ∧ W8.heap[q + 1]? = some (sObj (.slice SB k sb5)) := ⟨(hB8'.block q (lt_of_some HG01.out.1)).trans HG01.out.1, (hB8'.block _ (lt_of_some HG01.out.2)).trans HG01.out.2⟩
              have HG8 := Lib.hid hG8
              have HB8 := Lib.hid hB8'
              have HO8 : Hid (OwnP W8 wr.heap.size pv (ordN (pairsAt l (foldsL l st) recs m))) := Lib.hid hO8
              obtain ⟨A8, n8, c8, rfl⟩ : ∃ A8 n8 c8, pv = .slice A8 n8 c8 := by obtain ⟨A, c, h, _⟩ := hO8.form; exact ⟨A, _, c, h⟩
              clear hO8 hB8 hB8' hG8 CBH CHT COR
              go_wp2_with fail
              refine ⟨HG8.out, ?_⟩
              refine seqI_step rfl ?_
              simp only [List.getElem_toArray, List.getElem_cons_succ, List.getElem_cons_zero]
              go_wp2_with fail
              refine CB8.out.mono ?_
              rintro e W9 ⟨fv, rfl, hO9, hB9⟩
              have hG9 : W9.heap[q]? = some (gObj (.slice GA k gcap)) ∧ W9.heap[q + 1]? = some (sObj (.slice SB k sb5)) := ⟨(hB9.block q (lt_of_some HG8.out.1)).trans HG8.out.1, (hB9.block _ (lt_of_some HG8.out.2)).trans HG8.out.2⟩
              have k8 : W8.heap[q + 2]? = some (sObj (.slice none 0 0)) := (HB8.out.block _ (lt_of_some HK2.out)).trans HK2.out
              have k9 : W9.heap[q + 2]? = some (sObj (.slice none 0 0)) := (hB9.block _ (lt_of_some k8)).trans k8
              obtain ⟨z0, z1⟩ := box1 k9
              have h10 := stored1 k9 fv
              obtain ⟨z2, _⟩ := box1 h10
              have hg10 : W9.grownBy (W9.setCell ⟨q + 2, 0, none⟩ fv) (some (q + 2)) := grownBy_setCell' _ _ _
              have hwrq : q + 3 ≤ wr.heap.size := by have := HSZ.out; have := HQF.out; omega
              have hs8 : wr.heap.size ≤ W8.heap.size := HB8.out.size
              have hP10 : OwnP (W9.setCell ⟨q + 2, 0, none⟩ fv) wr.heap.size (.slice A8 n8 c8) (ordN (pairsAt l (foldsL l st) recs m)) := (HO8.out.below hB9).keep fun g hg => hg10.block g ((HO8.out.below hB9).own hg).2 (fun e => by have := ((HO8.out.below hB9).own hg).1; have := Option.some.inj e; omega)
              have hF10 : FoldsOwn (W9.setCell ⟨q + 2, 0, none⟩ fv) W8.heap.size fv (stateN l (foldsL l st) recs) := hO9.keep fun j h1 h2 => hg10.block j h2 (fun e => by have := Option.some.inj e; omega)
              have hB10 : Below q w (W9.setCell ⟨q + 2, 0, none⟩ fv) := ((HBW.out.trans (HB8.out.mono (by omega))).trans (hB9.mono (by omega))).grown hg10 (by have := lt_of_some k9; omega) (fun j hj => by cases hj; omega)
              have HFIN : Hid (RetRun l st recs w (.returned (.tuple #[.slice A8 n8 c8, .agg #[fv], .int .i64 0])) (W9.setCell ⟨q + 2, 0, none⟩ fv)) := Lib.hid ⟨_, _, 0, _, _, rfl, HRUN.out _ _ rfl rfl, hP10.base (by rw [HQ.out]; omega), hF10.base (by rw [HQ.out]; omega), by rw [HQ.out]; exact hB10⟩
              have HG9 := Lib.hid hG9
              have HG10 : Hid ((W9.setCell ⟨q + 2, 0, none⟩ fv).heap[q]? = some (gObj (.slice GA k gcap)) ∧ (W9.setCell ⟨q + 2, 0, none⟩ fv).heap[q + 1]? = some (sObj (.slice SB k sb5))) := Lib.hid ⟨(hg10.block q (lt_of_some hG9.1) (fun e => by have := Option.some.inj e; omega)).trans hG9.1, (hg10.block _ (lt_of_some hG9.2) (fun e => by have := Option.some.inj e; omega)).trans hG9.2⟩
              obtain ⟨A9, n9, c9, rfl⟩ : ∃ A9 n9 c9, fv = .slice A9 n9 c9 := by obtain ⟨A, c, h, _⟩ := hO9.form; exact ⟨A, _, c, h⟩
              clear hO9 hB9 hG9 k8 k9 h10 hg10 hP10 hF10 hB10 hwrq hs8 CB8
              go_wp2_with fail
              refine ⟨HG9.out, ?_⟩
              refine seqI_step rfl ?_
              simp only [List.getElem_toArray, List.getElem_cons_succ, List.getElem_cons_zero]
              go_wp2_with fail
              refine ⟨HG9.out, ?_⟩
              refine seqI_step rfl ?_
              simp only [List.getElem_toArray, List.getElem_cons_succ, List.getElem_cons_zero]
              go_wp2_with fail
              refine ⟨HG10.out, ?_⟩
              refine seqI_last rfl ?_
              simp only [List.getElem_toArray, List.getElem_cons_succ, List.getElem_cons_zero]
              go_wp2_with fail
              refine NoPanic.normal ?_
              go_wp2_with fail
              refine bodyPost_ret (v := .tuple #[.slice A8 n8 c8, .agg #[.slice A9 n9 c9], .int .i64 0]) (by simp [results, Try.results13, go_sem, z2]) rfl HFIN.out
  · have hen : (er != 0) = true := by rw [bne_iff_ne]; exact her
    obtain ⟨h1, h2, h3, h4⟩ := HERR.out w2 13 hBw2 k2 (.inl ⟨fun h => her (hchk.good.2 h), rfl, rfl, rfl⟩)
    have H1 := Lib.hid h1
    clear h1 hchk hB2 hBw2 k2 CK1 HCG her
    go_wp2_with fail
    refine bodyPost_ret (v := .tuple #[.slice none 0 0, .agg #[.slice none 0 0], .int .i64 13]) (by simp [results, Try.results13, go_sem, h2]) rfl H1.out

end Go.Proofs.Ytmfndimejnbgkaa.Model
