/-
  Contract of the model's stateBehind.
-/
import Derived.Test.YtmfndimejnbgkaaModelFindNew
namespace Go.Proofs.Ytmfndimejnbgkaa.Model
open Go Go.RowKit Go.Lib Go.Sort Go.Shelf Go.Maps Go.Proofs.Ytmfndimejnbgkaa.Law Go.Proofs.Ytmfndimejnbgkaa.Graph Go.Proofs.Ytmfndimejnbgkaa.Fold

theorem lastF_append (a b : List Pr) : lastF (a ++ b) = overF (lastF b) (lastF a) := by
  obtain ⟨n, hn⟩ : ∃ n, b.length = n := ⟨_, rfl⟩
  induction n generalizing b with
  | zero =>
    obtain rfl := List.eq_nil_of_length_eq_zero hn
    funext k
    simp [overF, lastF]
  | succ n ih =>
    obtain ⟨r, p, rfl⟩ : ∃ r p, b = r ++ [p] := by
      rcases List.eq_nil_or_concat b with h | ⟨r, p, h⟩
      · subst h; simp at hn
      · exact ⟨r, p, by simpa using h⟩
    funext k
    rw [← List.append_assoc, lastF_snoc, ih r (by simpa using hn)]
    unfold overF
    rw [lastF_snoc]
    by_cases hk : k = p.key
    · rw [if_pos hk, if_pos hk]
    · rw [if_neg hk, if_neg hk]
/-- The lists that have been laid so far. -/
def Laid (t : Nat → List Pr) (n k : Nat) (ll : List (List Pr)) : Prop := ll.length = n ∧ (∀ i, i < k → ll[i]? = some (t i)) ∧ ∀ i, k ≤ i → i < n → ll[i]? = some []
theorem Laid.start (t : Nat → List Pr) (n : Nat) : Laid t n 0 (List.replicate n []) := ⟨by simp, fun i h => absurd h (Nat.not_lt_zero _), fun i _ h => by rw [List.getElem?_replicate, if_pos h]⟩
theorem Laid.put {t : Nat → List Pr} {n k : Nat} {ll : List (List Pr)} (h : Laid t n k ll) (hk : k < n) : Laid t n (k + 1) (ll.set k (t k)) := by
  refine ⟨by rw [List.length_set, h.1], fun i hi => ?_, fun i hi hin => ?_⟩
  · rw [List.getElem?_set]
    by_cases hik : k = i
    · rw [if_pos hik, if_pos (by rw [h.1]; exact hk), ← hik]
    · rw [if_neg hik]; exact h.2.1 i (by omega)
  · rw [List.getElem?_set, if_neg (by omega)]; exact h.2.2 i (by omega) hin
theorem Laid.skip {t : Nat → List Pr} {n k : Nat} {ll : List (List Pr)} (h : Laid t n k ll) (hk : k < n) (ht : t k = []) : Laid t n (k + 1) ll :=
  ⟨h.1, fun i hi => by
    by_cases hik : i = k
    · subst hik; rw [ht]; exact h.2.2 i (Nat.le_refl _) hk
    · exact h.2.1 i (by omega), fun i hi hin => h.2.2 i (by omega) hin⟩
theorem Laid.done {t : Nat → List Pr} {n : Nat} {ll : List (List Pr)} (h : Laid t n n ll) : ll = (List.range n).map t := by
  apply List.ext_getElem?
  intro i
  by_cases hi : i < n
  · rw [h.2.1 i hi, List.getElem?_map, List.getElem?_range hi]; rfl
  · rw [List.getElem?_eq_none (by rw [h.1]; omega), List.getElem?_eq_none (by simp; omega)]
def targetN (l : List Opr) (st : List (List Pr)) (recs : List Rc) (i : Nat) : List Pr := if (l.getD i ⟨0, [], 0, 0, 0, 0, 0⟩).kind = 4 then behindN (st.getD i []) (pairsAt l st recs i) else []
/-- What stateBehind leaves. -/
def RetS (ll : List (List Pr)) (w : World) (e : Ending) (W : World) : Prop := ∃ v, e = .returned (.agg #[v]) ∧ FoldsOwn W w.heap.size v ll ∧ Below w.heap.size w W

set_option maxRecDepth 100000 in
set_option maxHeartbeats 16000000 in
theorem behind_calls {fq : Nat} {gv sv rv : Value} {F : Int → Option Value} (l : List Opr) (st : List (List Pr)) (recs : List Rc) (w : World) (h : Fnd w fq gv sv rv l.length F (pairsAt l st recs))
    (hG : OpsAt (fun b => b < fq) w gv l) (hS : FoldsAt (fun b => b < fq) w sv st) (hl : l.length ≤ 16) (hst : st.length = l.length) (hlen : ∀ i, i < l.length → (pairsAt l st recs i).length ≤ 4096) (hwf : ∀ i, wfP (pairsAt l st recs i))
    (hwk : ∀ p ∈ st, wfP p) (hkl : ∀ p ∈ st, p.length * 24 ≤ 140737488351232) :
    Calls Try.prog 36 #[.agg #[gv], .agg #[sv], fnV fq] w (RetS (stateN l st recs) w) := by
  obtain ⟨GA, gcap, rfl, hgcap⟩ := hG.form
  obtain ⟨SA, scap, rfl, hscap⟩ := hS.form
  obtain ⟨n, hn⟩ : ∃ n, l.length = n := ⟨_, rfl⟩
  obtain ⟨q, hq⟩ : ∃ q, w.heap.size = q := ⟨_, rfl⟩
  have hfq := h.size
  have hst2 : st.length = n := hst.trans hn
  rw [hst2] at h hS hscap ⊢
  rw [hn] at h hG hl hlen hgcap ⊢
  rw [hq] at hfq
  obtain ⟨W1, hW1⟩ : ∃ W1, ((w.alloc (gObj (.slice GA n gcap))).alloc (sObj (.slice SA n scap))).alloc (sObj (.slice none 0 0)) = W1 := ⟨_, rfl⟩
  have hB1 : Below q w W1 := by rw [← hW1, ← hq]; exact (((Below.refl _ _).alloc (Nat.le_refl _) _).alloc (by simp) _).alloc (by simp <;> omega) _
  have hs1 : W1.heap.size = q + 3 := by rw [← hW1, ← hq]; simp
  have hg1 : W1.heap[q]? = some (gObj (.slice GA n gcap)) := by rw [← hW1, ← hq]; exact (Below.heap_alloc _ _ _ (by simp <;> omega)).trans ((Below.heap_alloc _ _ _ (by simp)).trans (heap_alloc_new w _))
  have hv1 : W1.heap[q + 1]? = some (sObj (.slice SA n scap)) := by
    rw [← hW1, ← hq]
    have := heap_alloc_new (w.alloc (gObj (.slice GA n gcap))) (sObj (.slice SA n scap))
    rw [World.size_alloc] at this
    exact (Below.heap_alloc _ _ _ (by simp)).trans this
  have hr1 : W1.heap[q + 2]? = some (sObj (.slice none 0 0)) := by
    rw [← hW1, ← hq]
    have := heap_alloc_new ((w.alloc (gObj (.slice GA n gcap))).alloc (sObj (.slice SA n scap))) (sObj (.slice none 0 0))
    rwa [World.size_alloc, World.size_alloc] at this
  obtain ⟨c0, _⟩ := box1 hg1
  have CE := Lib.hid (empty_calls GA n gcap (by omega) W1)
  have HW1 := Lib.hid hW1
  have HB1 := Lib.hid hB1
  have HQ := Lib.hid hq
  have HS1 := Lib.hid hs1
  have HG1 := Lib.hid hg1
  have HV1 := Lib.hid hv1
  have HR1 := Lib.hid hr1
  have HF := Lib.hid h
  have HG := Lib.hid hG
  have HS := Lib.hid hS
  have HLEN := Lib.hid hlen
  have HWF := Lib.hid hwf
  have HWK := Lib.hid hwk
  have HKL := Lib.hid hkl
  have HN := Lib.hid hn
  have HST := Lib.hid hst2
  clear hW1 hB1 hs1 hg1 hv1 hr1 h hG hS hlen hwf hwk hkl hn hq hst hst2
  go_enter Try.func36, Try.ntmps36
  go_upto_region 1 with fail
  rw [HW1.out, HQ.out]
  go_wp2_with fail
  refine CE.out.mono ?_
  rintro e w2 ⟨fb, rfl, hO2, hB2⟩
  obtain ⟨bb, hbb⟩ : ∃ bb, w2.heap.size = bb := ⟨_, rfl⟩
  obtain ⟨W3, hW3⟩ : ∃ W3, w2.alloc (sObj (.slice (some ⟨fb, 0, none⟩) n n)) = W3 := ⟨_, rfl⟩
  have hB3 : Below bb w2 W3 := by rw [← hW3, ← hbb]; exact alloc_low _ _
  have hs3 : W3.heap.size = bb + 1 := by rw [← hW3, ← hbb]; simp
  have hb3 : W3.heap[bb]? = some (sObj (.slice (some ⟨fb, 0, none⟩) n n)) := by rw [← hW3, ← hbb]; exact heap_alloc_new w2 _
  have hBW : Below q w W3 := (HB1.out.trans (hB2.mono (by have := HS1.out; omega))).trans (hB3.mono (by have := HS1.out; have := hB2.size; omega))
  have hO3 : FoldsOwn W3 (q + 3) (.slice (some ⟨fb, 0, none⟩) n n) (List.replicate n []) := by rw [← HS1.out]; exact hO2.below (hbb ▸ hB3)
  have hfb : q + 3 ≤ fb ∧ fb < bb := by
    obtain ⟨us, _, h2, _⟩ := hO2
    have := h2.own (g := fb) rfl
    have := HS1.out
    omega
  have k0 : W3.heap[q]? = some (gObj (.slice GA n gcap)) := (hB3.block q (by have := HS1.out; have := hB2.size; omega)).trans ((hB2.block q (by have := HS1.out; omega)).trans HG1.out)
  have k1 : W3.heap[q + 1]? = some (sObj (.slice SA n scap)) := (hB3.block _ (by have := HS1.out; have := hB2.size; omega)).trans ((hB2.block _ (by have := HS1.out; omega)).trans HV1.out)
  have k2 : W3.heap[q + 2]? = some (sObj (.slice none 0 0)) := (hB3.block _ (by have := HS1.out; have := hB2.size; omega)).trans ((hB2.block _ (by have := HS1.out; omega)).trans HR1.out)
  have HF3 := Lib.hid (HF.out.below (W' := W3) (by rw [HQ.out]; exact hBW))
  obtain ⟨c3, _⟩ := box1 k0
  have HW3 := Lib.hid hW3
  have HBBQ := Lib.hid hbb
  have HB3 := Lib.hid hb3
  have HS3 := Lib.hid hs3
  have HBW := Lib.hid hBW
  have HK0 := Lib.hid k0
  have HK1 := Lib.hid k1
  have HK2 := Lib.hid k2
  have H0 : Hid (∃ ll, Laid (targetN l st recs) n 0 ll ∧ FoldsOwn W3 (q + 3) (.slice (some ⟨fb, 0, none⟩) n n) ll ∧ W3.grownBy W3 (some fb)) := Lib.hid ⟨_, Laid.start _ _, hO3, rfl, rfl, rfl, Nat.le_refl _, fun _ _ _ => rfl⟩
  clear hO2 hB2 hB3 hb3 hs3 hBW hO3 k0 k1 k2 hW3 CE c0 hbb
  go_upto_region 2 with fail
  rw [HW3.out, HBBQ.out]
  go_wp2_with fail
  go_loopw [16] (fun i wr => ∃ k : Nat, i = .int .i64 k ∧ k ≤ n ∧ Hid (∃ ll, Laid (targetN l st recs) n k ll ∧ FoldsOwn wr (q + 3) (.slice (some ⟨fb, 0, none⟩) n n) ll ∧ W3.grownBy wr (some fb))) (fun i _ => n - (intOf i).toNat)
  case atStart => exact ⟨0, rfl, Nat.zero_le _, H0⟩
  case round =>
    obtain ⟨k, rfl, hk, HO⟩ := hrel
    obtain ⟨ll, hL, hO, hGr⟩ := HO.out
    have hgs := hGr.size
    rw [HS3.out] at hgs
    have same : ∀ j, j < bb + 1 → j ≠ fb → wr.heap[j]? = W3.heap[j]? := fun j h1 h2 => hGr.block j (by rw [HS3.out]; exact h1) (fun e => h2 (Option.some.inj e))
    by_cases hlt : k < n
    · obtain ⟨x, hx⟩ : ∃ x, l[k]? = some x := ⟨_, List.getElem?_eq_getElem (by rw [HN.out]; exact hlt)⟩
      obtain ⟨p, hp⟩ : ∃ p, st[k]? = some p := ⟨_, List.getElem?_eq_getElem (by rw [HST.out]; exact hlt)⟩
      have hGw : OpsAt (fun b => b < fq) wr (.slice GA n gcap) l := HG.out.keep (fun j hj => (same j (by omega) (by omega)).trans (HBW.out.block j (by omega))) (fun _ h => h)
      have hSw : FoldsAt (fun b => b < fq) wr (.slice SA n scap) st := HS.out.keep (fun j hj => (same j (by omega) (by omega)).trans (HBW.out.block j (by omega))) (fun _ h => h)
      obtain ⟨gb, go, rfl, hgb, hgc⟩ := hGw.at (by omega)
      obtain ⟨sb, so, rfl, hsb, hsc⟩ := hSw.at (by omega)
      obtain ⟨u, ⟨d0, d1, d2, d3, d4, d5, d6⟩, hI⟩ := hgc k x hx
      obtain ⟨kv, hkv, hkp⟩ := hsc k p hp
      obtain ⟨KA, kcap, rfl, _⟩ := hkp.form
      obtain ⟨IA, icap, rfl, _⟩ := hI.form
      have hFw : Fnd wr fq (.slice (some ⟨gb, go, none⟩) n gcap) (.slice (some ⟨sb, so, none⟩) n scap) rv n F (pairsAt l st recs) := by
        have h3 := HF3.out
        have hne : ∀ {u : Value} {p : List Pr}, OwnP W3 (fq + 6) u p → u.ownBlock ≠ some fb := fun {u p} hu => by
          obtain ⟨_, _, ⟨us0, _, h6, _⟩, _⟩ := H0.out
          exact OwnP.apart hu h6 rfl
        refine ⟨h3.box.keep fun j hj _ => same j (by omega) (by omega), MapV.at h3.map (same _ (by omega) (by omega)), fun i hi => ?_, h3.no, h3.fresh, by omega⟩
        obtain ⟨v, h1, h2⟩ := h3.hit i hi
        exact ⟨v, h1, h2.keep fun g hg => same g (by rw [← HS3.out]; exact (h2.own hg).2) (fun e => hne h2 (by rw [hg, e]))⟩
      obtain ⟨z, hz⟩ : ∃ z, wr.heap.size = z := ⟨_, rfl⟩
      obtain ⟨W4, hW4⟩ : ∃ W4, wr.alloc (opObj x (.slice IA x.ins.length icap)) = W4 := ⟨_, rfl⟩
      have hB4 : Below wr.heap.size wr W4 := by rw [← hW4]; exact alloc_low _ _
      have hX4 : W4.heap[wr.heap.size]? = some (opObj x (.slice IA x.ins.length icap)) := by rw [← hW4]; exact heap_alloc_new wr _
      have hs4 : W4.heap.size = wr.heap.size + 1 := by rw [← hW4]; simp
      obtain ⟨⟨o0, o1, o2, o3, o4, o5, o6⟩, -⟩ := box7 hX4
      have hO4 := hO.below hB4
      have hG4 : W3.grownBy W4 (some fb) := ⟨hB4.os.trans hGr.os, hB4.tape.trans hGr.tape, hB4.output.trans hGr.output, Nat.le_trans hGr.size hB4.size, fun j hj hne => (hB4.block j (Nat.lt_of_lt_of_le hj hGr.size)).trans (hGr.block j hj hne)⟩
      have HK9 : Hid (k + 1 ≤ n) := Lib.hid hlt
      have htg : targetN l st recs k = if x.kind = 4 then behindN p (pairsAt l st recs k) else [] := by
        unfold targetN
        rw [show l.getD k ⟨0, [], 0, 0, 0, 0, 0⟩ = x by rw [List.getD_eq_getElem?_getD, hx]; rfl, show st.getD k [] = p by rw [List.getD_eq_getElem?_getD, hp]; rfl]
      have hgcI : (n : Int) ≤ (gcap : Int) := by omega
      have hscI : (n : Int) ≤ (scap : Int) := by omega
      have HW4 := Lib.hid hW4
      by_cases h4 : x.kind = 4
      · have e4 : (x.kind == 4) = true := by rw [beq_iff_eq]; exact h4
        rw [if_pos h4] at htg
        have hpk : wfP p := HWK.out p (List.mem_of_getElem? hp)
        have hpl := HKL.out p (List.mem_of_getElem? hp)
        have hF4 := hFw.below hB4
        obtain ⟨va, hva, hOa⟩ := hF4.hit k hlt
        have hla := HLEN.out k hlt
        have hwa := HWF.out k
        have hkp4 : OldP W4.heap.size W4 (.slice KA p.length kcap) p := hkp.keep (fun j hj => hB4.block j (by omega)) (fun j hj => by omega)
        have s1 : W4.cell? ⟨q + 1, 0, none⟩ = some (.slice (some ⟨sb, so, none⟩) n scap) := (box1 ((hB4.block _ (by omega)).trans ((same (q + 1) (by omega) (by omega)).trans HK1.out))).1
        have s2 : W4.cell? ⟨sb, so + k, none⟩ = some (.slice KA p.length kcap) := (World.cell?_of_block (hB4.block sb (by omega))).trans hkv
        have CB := Lib.hid (byKey_calls p hpk (by omega) _ W4 hkp4)
        have hb4 : W4.heap[bb]? = some (sObj (.slice (some ⟨fb, 0, none⟩) n n)) := (hB4.block bb (by omega)).trans ((same bb (by omega) (by omega)).trans HB3.out)
        obtain ⟨pl, hpl2⟩ : ∃ pl, p.length = pl := ⟨_, rfl⟩
        rw [hpl2] at CB s2 hpl
        have HPL := Lib.hid hpl2
        have HF4 := Lib.hid hF4
        have HVA := Lib.hid hva
        have HOA := Lib.hid hOa
        have HPK := Lib.hid hpk
        have HWA := Lib.hid hwa
        have HTG := Lib.hid htg
        have HO4 := Lib.hid hO4
        have HG4 := Lib.hid hG4
        have HB4 := Lib.hid hb4
        have HL := Lib.hid hL
        have HS4 : Hid (bb + 2 ≤ W4.heap.size ∧ W4.heap.size = wr.heap.size + 1) := Lib.hid ⟨by omega, hs4⟩
        have hlaI : (pairsAt l st recs k).length ≤ 4096 := hla
        have HLA := Lib.hid hla
        clear hGw hSw hgc hsc hx hp hI hkv hkp hFw hz hW4 hB4 hX4 hs4 hO4 hG4 htg h4 hpk hF4 hva hOa hla hwa hkp4 hb4 hpl2 hL hO hGr same HO hgb hsb hlaI hgs
        go_upto_region 5 with fail
        rw [HW4.out]
        go_wp2_with fail
        refine CB.out.mono ?_
        rintro e W5 ⟨b1, rfl, hb1, hM1, hB5⟩
        have CH := Lib.hid (hit_calls W5 (HF4.out.below hB5) (by omega) k (by omega) va HVA.out)
        have hOa5 := HOA.out.below hB5
        obtain ⟨Aa, ca, rfl, _⟩ := hOa5.form
        have CB2 := Lib.hid (byKey_calls (pairsAt l st recs k) HWA.out (by have := HLA.out; omega) _ W5 hOa5.old)
        have HM1 := Lib.hid hM1
        have HB5 := Lib.hid hB5
        have HB1' := Lib.hid hb1
        obtain ⟨la, hla⟩ : ∃ la, (pairsAt l st recs k).length = la := ⟨_, rfl⟩
        rw [hla] at CH CB2
        have HLA2 : Hid (la ≤ 4096 ∧ (pairsAt l st recs k).length = la) := Lib.hid ⟨by have := HLA.out; omega, hla⟩
        clear hM1 hB5 hb1 hOa5 CB hla
        go_wp2_with fail
        refine CH.out.mono ?_
        rintro e W5' ⟨rfl, rfl⟩
        go_wp2_with fail
        refine CB2.out.mono ?_
        rintro e W6 ⟨b2, rfl, hb2, hM2, hB6⟩
        have hne : b1 ≠ b2 := by have := HM1.out.lt; omega
        have CC := copyM_calls b1 b2 pl la (lastF p) (lastF (pairsAt l st recs k)) (keysL (pairsAt l st recs k)) (keysL_nodup _) (keysL_short HWA.out) (fun s _ => lastF_some _ s) hne (by have := keysL_len (pairsAt l st recs k); have := HLA2.out; omega) W6 (HM1.out.below hB6) hM2
        have HCC := Lib.hid CC
        have HB6 := Lib.hid hB6
        clear hb2 hM2 hB6 hne CC CH CB2
        go_wp2_with fail
        refine HCC.out.mono ?_
        rintro e W7 ⟨rfl, hM7, hG7⟩
        have hB47 : Below W4.heap.size W4 W7 := (HB5.out.trans (HB6.out.mono HB5.out.size)).grown hG7 (by have := HB5.out.size; have := HB6.out.size; omega) (fun j hj => by cases hj; exact HB1'.out)
        have hov : overF (lastF (pairsAt l st recs k)) (lastF p) = lastF (p ++ pairsAt l st recs k) := (lastF_append _ _).symm
        rw [hov] at hM7
        have hkl2 := keysL_len (pairsAt l st recs k)
        have CR := rising_calls b1 (pl + (keysL (pairsAt l st recs k)).length) (lastF (p ++ pairsAt l st recs k)) (keysL (p ++ pairsAt l st recs k)) (keysL_nodup _) (keysL_short (HPK.out.append HWA.out)) (fun s _ => lastF_some _ s) (by have := HLA2.out; omega) W7.drew (hM7.at rfl)
        have HCR := Lib.hid CR
        have hO7 := (HO4.out.below hB47)
        have hb7 : W7.heap[bb]? = some (sObj (.slice (some ⟨fb, 0, none⟩) n n)) := (hB47.block bb (by have := HS4.out; omega)).trans HB4.out
        have hG37 : W3.grownBy W7 (some fb) := ⟨hB47.os.trans HG4.out.os, hB47.tape.trans HG4.out.tape, hB47.output.trans HG4.out.output, Nat.le_trans HG4.out.size hB47.size, fun j hj hne => (hB47.block j (Nat.lt_of_lt_of_le hj HG4.out.size)).trans (HG4.out.block j hj hne)⟩
        have HO7 := Lib.hid hO7
        have HB7 := Lib.hid hb7
        have HG37 := Lib.hid hG37
        have HS7 : Hid (bb + 2 ≤ W7.heap.size) := Lib.hid (by have := hB47.size; have := HS4.out; omega)
        clear hM7 hG7 hB47 hov hkl2 CR hO7 hb7 hG37 HCC HM1 HB5 HB6
        have HCB : Hid (∀ w' : World, w'.heap[bb]? = some (sObj (.slice (some ⟨fb, 0, none⟩) n n)) → w'.cell? ⟨bb, 0, none⟩ = some (.slice (some ⟨fb, 0, none⟩) n n)) := Lib.hid fun w' hw' => (box1 hw').1
        go_wp2_with fail
        refine wp_region_noPanic ?_
        refine wp_region_held_tail (C := fun w' => w'.heap[bb]? = some (sObj (.slice (some ⟨fb, 0, none⟩) n n))) [0, 1, 2, 3] [4, 5, 6] 6 (by kernel_rfl) (by kernel_rfl) (fun _ _ _ _ _ h => h) ?_ ?_
        · exact HB7.out
        iterate 4
          refine heldI_step (v := ?_) rfl (by rfl) (fun w' hw' => ?_) ?_
          rotate_left
          · have k0 := HCB.out w' hw'
            go_simp
            all_goals with_reducible rfl
          simp only [Act.put, List.getElem_toArray, List.getElem_cons_succ, List.getElem_cons_zero, List.setIfInBounds_toArray, List.set_cons_succ, List.set_cons_zero]
        refine heldI_nil ?_
        refine seqI_step rfl ?_
        simp only [List.getElem_toArray, List.getElem_cons_succ, List.getElem_cons_zero]
        go_wp2_with fail
        refine HCR.out.mono ?_
        rintro e W8 ⟨v8, rfl, hO8, hB8⟩
        have hB78 : Below W7.heap.size W7 W8 := ⟨hB8.os, hB8.tape, hB8.output, hB8.size, hB8.block⟩
        have hF8 := HO7.out.below hB78
        obtain ⟨us, hus, hrow, hrows⟩ := id hF8
        have hul : us.length = n := by rw [hus, HL.out.1]
        obtain ⟨u0, hu0⟩ : ∃ u0, us[k]? = some u0 := ⟨_, List.getElem?_eq_getElem (by omega)⟩
        obtain ⟨q0, q1⟩ := OwnRow.cell hrow hu0
        have hst8 := FoldsOwn.store hF8 k (u := v8) (p := behindN p (pairsAt l st recs k)) (hO8.base (by have := HS7.out; show q + 3 ≤ W7.heap.size; omega))
        have hG38 : W3.grownBy (W8.setCell ⟨fb, k, none⟩ v8) (some fb) := (⟨hB78.os.trans HG37.out.os, hB78.tape.trans HG37.out.tape, hB78.output.trans HG37.out.output, Nat.le_trans HG37.out.size hB78.size, fun j hj hne => (hB78.block j (Nat.lt_of_lt_of_le hj HG37.out.size)).trans (HG37.out.block j hj hne)⟩ : W3.grownBy W8 (some fb)).trans hst8.2
        have HDONE : Hid (∃ ll, Laid (targetN l st recs) n (k + 1) ll ∧ FoldsOwn (W8.setCell ⟨fb, k, none⟩ v8) (q + 3) (.slice (some ⟨fb, 0, none⟩) n n) ll ∧ W3.grownBy (W8.setCell ⟨fb, k, none⟩ v8) (some fb)) := Lib.hid ⟨_, HL.out.put (by omega), by rw [HTG.out]; exact hst8.1, hG38⟩
        have hb8 : W8.heap[bb]? = some (sObj (.slice (some ⟨fb, 0, none⟩) n n)) := (hB78.block bb (by have := HS7.out; omega)).trans HB7.out
        have HB8 := Lib.hid hb8
        obtain ⟨A8, n8, c8, rfl⟩ : ∃ A8 n8 c8, v8 = .slice A8 n8 c8 := by obtain ⟨A, c, h, _⟩ := hO8.form; exact ⟨A, _, c, h⟩
        clear hB8 hB78 hF8 hrow hrows hus hul hu0 hst8 hG38 hb8 hO8
        go_wp2_with fail
        refine ⟨HB8.out, ?_⟩
        refine seqI_step rfl ?_
        simp only [List.getElem_toArray, List.getElem_cons_succ, List.getElem_cons_zero]
        go_wp2_with fail
        refine ⟨HB8.out, ?_⟩
        refine seqI_last rfl ?_
        simp only [List.getElem_toArray, List.getElem_cons_succ, List.getElem_cons_zero]
        go_wp2_with fail
        refine NoPanic.normal ?_
        go_wp2_with fail
        go_roundw
        case rel => exact ⟨k + 1, by go_num, HK9.out, HDONE⟩
        case measure => have h := HK9.out; simp [intOf]; omega
      · have e4 : (x.kind == 4) = false := by rw [beq_eq_false_iff_ne]; exact h4
        rw [if_neg h4] at htg
        have HDONE : Hid (∃ ll, Laid (targetN l st recs) n (k + 1) ll ∧ FoldsOwn W4 (q + 3) (.slice (some ⟨fb, 0, none⟩) n n) ll ∧ W3.grownBy W4 (some fb)) := Lib.hid ⟨_, hL.skip hlt htg, hO4, hG4⟩
        clear hGw hSw hgc hsc hx hp hI hkv hkp hFw hz hW4 hB4 hX4 hs4 hO4 hG4 htg h4 hL hO hGr same HO hgb hsb hgs
        go_upto_region 5 with fail
        rw [HW4.out]
        go_wp2_with fail
        go_roundw
        case rel => exact ⟨k + 1, by go_num, HK9.out, HDONE⟩
        case measure => have h := HK9.out; simp [intOf]; omega
    · obtain rfl : k = n := by omega
      have hb : wr.heap[bb]? = some (sObj (.slice (some ⟨fb, 0, none⟩) k k)) := (same bb (by omega) (by omega)).trans HB3.out
      have hr : wr.heap[q + 2]? = some (sObj (.slice none 0 0)) := (same (q + 2) (by omega) (by omega)).trans HK2.out
      obtain ⟨b0, _⟩ := box1 hb
      obtain ⟨_, f2⟩ := box1 hr
      have h2 : (wr.setCell ⟨q + 2, 0, none⟩ (.slice (some ⟨fb, 0, none⟩) k k)).heap[q + 2]? = some (sObj (.slice (some ⟨fb, 0, none⟩) k k)) := stored1 hr _
      obtain ⟨c5, _⟩ := box1 h2
      have hll : ll = stateN l st recs := by
        have := hL.done
        rw [this]
        unfold stateN
        rw [HN.out]
        rfl
      rw [hll] at hO
      have hgs2 : wr.grownBy (wr.setCell ⟨q + 2, 0, none⟩ (.slice (some ⟨fb, 0, none⟩) k k)) (some (q + 2)) := grownBy_setCell' _ _ _
      have hOf : FoldsOwn (wr.setCell ⟨q + 2, 0, none⟩ (.slice (some ⟨fb, 0, none⟩) k k)) (q + 3) (.slice (some ⟨fb, 0, none⟩) k k) (stateN l st recs) := hO.keep fun j h1 h2 => hgs2.block j h2 (fun e => by have := Option.some.inj e; omega)
      have HFIN : Hid (RetS (stateN l st recs) w (.returned (.agg #[.slice (some ⟨fb, 0, none⟩) k k])) (wr.setCell ⟨q + 2, 0, none⟩ (.slice (some ⟨fb, 0, none⟩) k k))) := Lib.hid ⟨_, rfl, hOf.base (by rw [HQ.out]; omega), by
        rw [HQ.out]
        exact (HBW.out.grown hGr (by rw [HS3.out]; omega) (fun j hj => by cases hj; omega)).grown hgs2 (by omega) (fun j hj => by cases hj; omega)⟩
      clear hll hO hOf hgs2 hL hGr same hgs hb hr h2 HO
      go_wp2_with fail
      refine bodyPost_ret (v := .agg #[.slice (some ⟨fb, 0, none⟩) k k]) (by simp [results, Try.results36, go_sem, c5]) rfl HFIN.out

end Go.Proofs.Ytmfndimejnbgkaa.Model
