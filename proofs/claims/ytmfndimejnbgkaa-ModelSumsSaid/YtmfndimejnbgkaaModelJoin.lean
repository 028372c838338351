/-
  Contract of the model's joined.
-/
import Derived.Test.YtmfndimejnbgkaaModelFold
namespace Go.Proofs.Ytmfndimejnbgkaa.Model
open Go Go.RowKit Go.Lib Go.Sort Go.Shelf Go.Maps Go.Proofs.Ytmfndimejnbgkaa.Law Go.Proofs.Ytmfndimejnbgkaa.Graph Go.Proofs.Ytmfndimejnbgkaa.Fold

theorem bothF_some (x : Int) (a b : List Pr) (k : ByteArray) : (bothF x a b k).isSome ↔ k ∈ (keysL a).filter fun k => decide (k ∈ keysL b) := by
  rw [List.mem_filter, decide_eq_true_iff, ← grpF_some (x := x), ← grpF_some (x := x)]
  unfold bothF
  cases grpF x a k <;> cases grpF x b k <;> simp

set_option maxRecDepth 100000 in
set_option maxHeartbeats 8000000 in
theorem joined_calls (x : Int) (hx : isF x = true) (l m : List Pr) (hwf : wfP l) (hwm : wfP m) (hlen : l.length ≤ 1000000) (hlm : m.length ≤ 1000000) (v u : Value) (w : World) (h : OldP w.heap.size w v l) (hu : OldP w.heap.size w u m) :
    Calls Try.prog 65 #[.int .i64 x, v, u] w (RetP (joinedN x l m) w) := by
  obtain ⟨A, cap, rfl, _⟩ := h.form
  obtain ⟨B, kap, rfl, _⟩ := hu.form
  have CA := Lib.hid (allByKey_calls x hx l hwf (by omega) _ w h)
  obtain ⟨ll, hll⟩ : ∃ ll, l.length = ll := ⟨_, rfl⟩
  obtain ⟨n, hN⟩ : ∃ n, m.length = n := ⟨_, rfl⟩
  rw [hll] at CA
  have CB := Lib.hid fun W (hB : Below w.heap.size w W) => allByKey_calls x hx m hwm (by omega) _ W ((TwoAt.low hB hu).mono fun _ hb => Nat.lt_of_lt_of_le hb hB.size)
  rw [hll] at h ⊢
  rw [hN] at hu CB ⊢
  have HWF := Lib.hid hwf
  have HWM := Lib.hid hwm
  have HLL := Lib.hid hll
  have hln : ll ≤ 1000000 := by omega
  have hnn : n ≤ 1000000 := by omega
  have hmm := @run_makeMap Try.prog
  clear hN hu h hwf hwm hll hlen hlm
  go_enter Try.func65, Try.ntmps65
  go_wp2_with fail
  refine CA.out.mono ?_
  rintro e w1 ⟨b1, rfl, hb1, hM1, hB1⟩
  have CB1 := Lib.hid (CB.out w1 hB1)
  have HM1 := Lib.hid hM1
  have HB1 := Lib.hid hB1
  have HBB1 := Lib.hid hb1
  clear hM1 hB1 CA CB hb1
  go_wp2_with fail
  refine CB1.out.mono ?_
  rintro e w2 ⟨b2, rfl, hb2, hM2, hB2⟩
  obtain ⟨q, hq⟩ : ∃ q, w2.heap.size = q := ⟨_, rfl⟩
  obtain ⟨W6, hW6⟩ : ∃ W6, w2.alloc (.map #[] 0) = W6 := ⟨_, rfl⟩
  have hB6 : Below q w2 W6 := by rw [← hW6, ← hq]; exact alloc_low _ _
  have hs6 : W6.heap.size = q + 1 := by rw [← hW6, ← hq]; simp
  have hm6 : MapU W6 q 0 (fun _ => none) := by rw [← hW6, ← hq]; exact MapU.made w2
  have hM1a : MapU W6 b1 ll (grpF x l) := (HM1.out.below hB2).below (hq ▸ hB6)
  have hM2a : MapU W6 b2 n (grpF x m) := hM2.below (hq ▸ hB6)
  have hks : ∀ s ∈ keysL l, Short s := fun s hs => by
    obtain ⟨p, hp, rfl⟩ := mem_keysL.1 hs
    exact (HWF.out p hp).1
  obtain ⟨W7, cnt, hrun, hR, hg7, hs7⟩ := hM1a.rng (keysL_nodup l) hks (fun s _ => grpF_some)
  rw [hs6] at hrun hR hs7
  have hkl := keysL_len l
  rw [HLL.out] at hkl
  have hBw2 : Below w.heap.size w w2 := HB1.out.trans (hB2.mono HB1.out.size)
  have hBw6 : Below w.heap.size w W6 := hBw2.trans (hB6.mono (by have := hBw2.size; omega))
  have hm7 : MapU W7 q ((keysL l).length - (keysL l).length) (leftF (keysL l) (bothF x l m)) := by
    rw [Nat.sub_self]
    refine MapV.same (MapV.kept hm6 hg7 (by simp)) fun s _ => ?_
    show none = (leftF (keysL l) (bothF x l m) s).map u32V
    unfold leftF
    split
    · rfl
    · rename_i hno
      cases hF : bothF x l m s with
      | none => rfl
      | some y => exact absurd (List.mem_filter.1 ((bothF_some x l m s).1 (by rw [hF]; rfl))).1 hno
  have hb1q : b1 < q := by have := hM1a.lt; have := HM1.out.lt; have := hB2.size; omega
  have hb2q : b2 < q := by have := hM2.lt; omega
  have HRUN := Lib.hid hrun
  have HR := Lib.hid hR
  have HM2 := Lib.hid hM2a
  have HS6 := Lib.hid hs6
  have HBW6 := Lib.hid hBw6
  have HKL := Lib.hid hkl
  have HW6 := Lib.hid hW6
  have HQ := Lib.hid hq
  have HWQ : Hid (w.heap.size ≤ q) := Lib.hid (by have := hBw2.size; omega)
  have H7 : Hid (MapU W7 q ((keysL l).length - (keysL l).length) (leftF (keysL l) (bothF x l m)) ∧ (keysL l).length ≤ (keysL l).length ∧ (keysL l).Nodup ∧ (∀ s ∈ keysL l, s ∈ keysL l) ∧ W6.grownBy W7 (some q)) := Lib.hid ⟨hm7, Nat.le_refl _, keysL_nodup l, fun _ h => h, ⟨hg7.os, hg7.tape, hg7.output, hg7.size, fun j hj _ => hg7.block j hj (by simp)⟩⟩
  clear hB6 hs6 hm6 hM1a hM2a hks hrun hR hg7 hs7 hkl hBw2 hBw6 hm7 hM2 hB2 hb2 CB1 hW6
  go_upto_region 3 with fail
  rw [HW6.out]
  go_wp2_with (at_range; refine wpList_range_ran rfl _ _ rfl rfl HRUN.out ?_)
  go_frame
  go_loopw [23] (fun _ wr => ∃ (rest : List ByteArray) (c : Nat), RngU wr b1 (q + 1) ll (grpF x l) rest c ∧ Hid (MapU wr q ((keysL l).length - rest.length) (leftF rest (bothF x l m)) ∧ rest.length ≤ (keysL l).length ∧ rest.Nodup ∧ (∀ s ∈ rest, s ∈ keysL l) ∧ W6.grownBy wr (some q))) (fun _ wr => wr.rangeLeft b1 (q + 1))
  case atStart => exact ⟨keysL l, cnt, HR.out, H7⟩
  case round =>
    obtain ⟨rest, c, hrng, HO⟩ := hrel
    have hleft := RngV.left hrng
    rcases hrng.next 0 with ⟨rfl, hnx⟩ | ⟨s, y, w2, c2, hsr, hsh, hF, hnx, hrng2, hlt2, hg2, hs2, hen⟩
    · have HNX := Lib.hid hnx
      obtain ⟨hM, _, _, _, hGw⟩ := HO.out
      have hMf : MapU wr q ll (bothF x l m) := MapV.mono (MapV.same hM fun s _ => by show (leftF [] (bothF x l m) s).map u32V = _; unfold leftF; simp) (by have := HKL.out; simp; omega)
      have CR := rising_calls q ll _ ((keysL l).filter fun k => decide (k ∈ keysL m)) ((keysL_nodup l).filter _) (fun s hs => by obtain ⟨p, hp, rfl⟩ := mem_keysL.1 (List.mem_filter.1 hs).1; exact (HWF.out p hp).1) (fun s _ => bothF_some x l m s) (by omega) wr hMf
      have HCR := Lib.hid CR
      have HB : Hid (Below w.heap.size w wr) := Lib.hid (HBW6.out.grown hGw HBW6.out.size (fun j hj => by cases hj; exact HWQ.out))
      clear hnx hrng hleft hM hGw HO CR hMf
      go_wp2_with (at_next; refine wpList_next_ran rfl _ _ rfl rfl HNX.out ?_)
      refine HCR.out.mono ?_
      rintro e w3 ⟨r, rfl, hO, hB3⟩
      have HF : Hid (RetP (joinedN x l m) w (.returned r) w3) := Lib.hid ⟨r, rfl, hO.base HB.out.size, HB.out.trans (hB3.mono HB.out.size)⟩
      clear hO hB3
      go_wp2_with fail
      go_ret
      exact HF.out
    · obtain ⟨hM, hle, hnd, hsub, hGw⟩ := HO.out
      have hgs := hGw.size
      rw [HS6.out] at hgs
      have hM2' : MapU w2 b2 n (grpF x m) := HM2.out.at ((hg2.block b2 (by omega) (fun e => by have := Option.some.inj e; omega)).trans (hGw.block b2 HM2.out.lt (fun e => by have := Option.some.inj e; omega)))
      have hlook := hM2'.lookOk hsh
      have hMq : MapU w2 q ((keysL l).length - rest.length) (leftF rest (bothF x l m)) := MapV.kept hM hg2 (fun e => by have := Option.some.inj e; omega)
      have hkl := HKL.out
      have hrl := cut_length hsr
      have hl2 := RngV.left hrng2
      have hGw2 : W6.grownBy w2 (some q) := hGw.andThen hg2 (fun j hj => .inl (by cases hj; rw [HS6.out]; exact Nat.le_refl _))
      have HNX := Lib.hid hnx
      have HEN := Lib.hid hen
      have hyl : y < 4294967296 := grpF_lt HWF.out hF
      cases hF2 : grpF x m s with
      | none =>
        rw [hF2] at hlook
        have HLK : Hid ((Instr.lookup 130 (.map (some b2)) (.string s) true).run Try.prog w2 = .ok (.tuple #[.int .u32 0, .bool false]) w2) := Lib.hid hlook
        have hM3 : MapU w2 q ((keysL l).length - (cut rest s).length) (leftF (cut rest s) (bothF x l m)) := by
          refine MapV.mono (MapV.same hMq fun z _ => ?_) (by omega)
          show (leftF rest (bothF x l m) z).map u32V = (leftF (cut rest s) (bothF x l m) z).map u32V
          congr 1
          unfold leftF
          by_cases hz : z = s
          · subst hz
            rw [if_pos hsr, if_neg (fun e => ((mem_cut hnd).1 e).1 rfl)]
            unfold bothF
            rw [hF, hF2]
          · by_cases hm : z ∈ rest
            · rw [if_pos hm, if_pos ((mem_cut hnd).2 ⟨hz, hm⟩)]
            · rw [if_neg hm, if_neg (fun e => hm ((mem_cut hnd).1 e).2)]
        have HRG := Lib.hid hrng2
        have HF' : Hid (MapU w2 q ((keysL l).length - (cut rest s).length) (leftF (cut rest s) (bothF x l m)) ∧ (cut rest s).length ≤ (keysL l).length ∧ (cut rest s).Nodup ∧ (∀ z ∈ cut rest s, z ∈ keysL l) ∧ W6.grownBy w2 (some q)) := Lib.hid ⟨hM3, by omega, cut_nodup hnd _, fun z hz => hsub z ((mem_cut hnd).1 hz).2, hGw2⟩
        clear hnx hen hrng hrng2 hM hMq hM3 HO hgs hGw hGw2 hnd hle hg2 hrl hF hF2 hsh hlook hsub hM2' hkl hs2 hyl
        go_wp2_with (first | (at_next; refine wpList_next_ran rfl _ _ rfl rfl HNX.out ?_) | (refine wpList_entry_ran (o := ⟨some 25, _, _, _, _, _⟩) rfl _ rfl rfl HEN.out ?_) | (at_lookup; refine wpList_lookup_ran rfl _ _ _ _ rfl rfl rfl HLK.out ?_))
        go_roundw
        case rel => exact ⟨cut rest s, c2, HRG.out, HF'⟩
        case measure => rw [hleft, hl2]; exact hlt2
      | some z =>
        rw [hF2] at hlook
        have HLK : Hid ((Instr.lookup 130 (.map (some b2)) (.string s) true).run Try.prog w2 = .ok (.tuple #[.int .u32 (z : Nat), .bool true]) w2) := Lib.hid hlook
        have CJ := Lib.hid (join_calls x y z hyl (grpF_lt HWM.out hF2) w2)
        obtain ⟨W3, R3, M3, G3, s3⟩ := hMq.store (by omega) hsh (jnN x y z)
        have hM3 : MapU W3 q ((keysL l).length - (cut rest s).length) (leftF (cut rest s) (bothF x l m)) := by
          refine MapV.mono (MapV.same M3 fun t _ => ?_) (by omega)
          show (if t = s then some (jnN x y z) else leftF rest (bothF x l m) t).map u32V = (leftF (cut rest s) (bothF x l m) t).map u32V
          congr 1
          unfold leftF
          by_cases ht : t = s
          · subst ht
            rw [if_pos rfl, if_neg (fun e => ((mem_cut hnd).1 e).1 rfl)]
            unfold bothF
            rw [hF, hF2]
          · rw [if_neg ht]
            by_cases hm : t ∈ rest
            · rw [if_pos hm, if_pos ((mem_cut hnd).2 ⟨ht, hm⟩)]
            · rw [if_neg hm, if_neg (fun e => hm ((mem_cut hnd).1 e).2)]
        have hr3 : RngU W3 b1 (q + 1) ll (grpF x l) (cut rest s) c2 := RngV.kept hrng2 G3 (fun e => by have := Option.some.inj e; omega) (fun e => by have := Option.some.inj e; omega)
        have hl3 := RngV.left hr3
        have hG3 : W6.grownBy W3 (some q) := hGw2.andThen G3 (fun j hj => .inr hj)
        have HR3 := Lib.hid R3
        have HRG := Lib.hid hr3
        have HF' : Hid (MapU W3 q ((keysL l).length - (cut rest s).length) (leftF (cut rest s) (bothF x l m)) ∧ (cut rest s).length ≤ (keysL l).length ∧ (cut rest s).Nodup ∧ (∀ z ∈ cut rest s, z ∈ keysL l) ∧ W6.grownBy W3 (some q)) := Lib.hid ⟨hM3, by omega, cut_nodup hnd _, fun z hz => hsub z ((mem_cut hnd).1 hz).2, hG3⟩
        clear hnx hen hrng hrng2 hM hMq hM3 HO hgs hGw hGw2 hnd hle hg2 hrl hF hF2 hsh hlook hsub hM2' hkl hs2 hyl R3 M3 G3 s3 hr3 hG3 hl2
        go_wp2_with (first | (at_next; refine wpList_next_ran rfl _ _ rfl rfl HNX.out ?_) | (refine wpList_entry_ran (o := ⟨some 25, _, _, _, _, _⟩) rfl _ rfl rfl HEN.out ?_) | (at_lookup; refine wpList_lookup_ran rfl _ _ _ _ rfl rfl rfl HLK.out ?_) | (go_at_call 112; refine CJ.out.mono ?_; rintro e w4 ⟨rfl, rfl⟩) | (at_mapUpdate; refine wpList_mapUpdate_ran rfl _ _ _ _ rfl rfl rfl rfl HR3.out ?_))
        go_roundw
        case rel => exact ⟨_, _, _, _, _, _, _, _, _, _, _, _, _, _, _, _, _, _, _, _, _, _, ⟨cut rest s, c2, HRG.out, HF'⟩, rfl⟩
        case measure => rw [hleft, hl3]; exact hlt2

end Go.Proofs.Ytmfndimejnbgkaa.Model
