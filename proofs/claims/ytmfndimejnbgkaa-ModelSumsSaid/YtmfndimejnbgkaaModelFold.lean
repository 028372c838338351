/-
  Contracts of the model's folded and joined.
-/
import Derived.Test.YtmfndimejnbgkaaModelGroup
namespace Go.Proofs.Ytmfndimejnbgkaa.Model
open Go Go.RowKit Go.Lib Go.Sort Go.Shelf Go.Maps Go.Proofs.Ytmfndimejnbgkaa.Law Go.Proofs.Ytmfndimejnbgkaa.Graph Go.Proofs.Ytmfndimejnbgkaa.Fold

theorem foldl_take {x : Int} {F : ByteArray → Option Nat} {l : List Pr} {k : Nat} {p : Pr} (h : l[k]? = some p) : (l.take (k + 1)).foldl (joinIn x) F = joinIn x ((l.take k).foldl (joinIn x) F) p := by
  rw [Graph.take_snoc h, List.foldl_append]
  rfl
theorem joinIn_some (x : Int) (F : ByteArray → Option Nat) (p : Pr) (k : ByteArray) : (joinIn x F p k).isSome = (F k).isSome := by
  unfold joinIn
  split
  · cases F k <;> rfl
  · rfl
theorem foldJ_some (x : Int) : ∀ (l : List Pr) (F : ByteArray → Option Nat) (k : ByteArray), (l.foldl (joinIn x) F k).isSome = (F k).isSome
  | [], _, _ => rfl
  | p :: l, F, k => by rw [List.foldl_cons, foldJ_some x l, joinIn_some]
theorem grpF_lt {x : Int} {l : List Pr} (h : wfP l) {k : ByteArray} {v : Nat} (hv : grpF x l k = some v) : v < 4294967296 :=
  foO_lt x _ v (fun u hu => by obtain ⟨p, hp, _, rfl⟩ := valsOf_mem hu; exact (h p hp).2) hv
theorem foldJ_lt (x : Int) : ∀ (l : List Pr) (F : ByteArray → Option Nat), wfP l → (∀ k v, F k = some v → v < 4294967296) → ∀ k v, l.foldl (joinIn x) F k = some v → v < 4294967296
  | [], _, _, hF, k, v, h => hF k v h
  | p :: l, F, hl, hF, k, v, h => by
    refine foldJ_lt x l (joinIn x F p) (fun q hq => hl q (List.mem_cons_of_mem _ hq)) (fun k v h => ?_) k v h
    unfold joinIn at h
    split at h
    · cases hk : F k with
      | none => rw [hk] at h; cases h
      | some u =>
        rw [hk] at h
        obtain rfl : jnN x u p.val = v := by simpa using h
        exact jnN_lt x u p.val (hF k u hk) (hl p (List.mem_cons_self ..)).2
    · exact hF k v h

theorem joinIn_at (x : Int) (F : ByteArray → Option Nat) (p : Pr) (k : ByteArray) : joinIn x F p k = if k = p.key then (F k).map fun v => jnN x v p.val else F k := rfl
set_option maxRecDepth 100000 in
set_option maxHeartbeats 8000000 in
theorem folded_calls (x : Int) (hx : isF x = true) (l kept : List Pr) (hwf : wfP l) (hwk : wfP kept) (hlen : l.length ≤ 1000000) (hlk : kept.length * 24 ≤ 140737488351232) (v u : Value) (w : World) (h : OldP w.heap.size w v l) (hu : OldP w.heap.size w u kept) :
    Calls Try.prog 66 #[.int .i64 x, v, u] w (RetP (foldedN x l kept) w) := by
  obtain ⟨A, cap, rfl, _⟩ := h.form
  obtain ⟨B, kap, rfl, _⟩ := hu.form
  have CA := Lib.hid (allByKey_calls x hx l hwf (by omega) _ w h)
  obtain ⟨ll, hll⟩ : ∃ ll, l.length = ll := ⟨_, rfl⟩
  obtain ⟨n, hN⟩ : ∃ n, kept.length = n := ⟨_, rfl⟩
  rw [hll] at CA
  rw [hll] at h ⊢
  rw [hN] at hu ⊢
  have HN := Lib.hid hN
  have HU := Lib.hid hu
  have HWF := Lib.hid hwf
  have HWK := Lib.hid hwk
  have HLL := Lib.hid hll
  have hnn : n ≤ 5864062014634 := by omega
  have hln : ll ≤ 1000000 := by omega
  clear hN hu h hwf hwk hll hlk hlen
  go_enter Try.func66, Try.ntmps66
  go_wp2_with fail
  refine CA.out.mono ?_
  rintro e w1 ⟨mb, rfl, hmb, hM1, hB1⟩
  have H1 : Hid (MapU w1 mb (ll + 0) ((kept.take 0).foldl (joinIn x) (grpF x l)) ∧ Below w.heap.size w w1 ∧ mb < w1.heap.size) := Lib.hid ⟨hM1, hB1, hM1.lt⟩
  have HMB := Lib.hid hmb
  clear hM1 hB1 CA hmb
  go_wp2_with fail
  go_loopw [17] (fun i wr => ∃ k : Nat, i = .int .i64 k ∧ k ≤ n ∧ Hid (MapU wr mb (ll + k) ((kept.take k).foldl (joinIn x) (grpF x l)) ∧ Below w.heap.size w wr ∧ mb < wr.heap.size)) (fun i _ => n - (intOf i).toNat)
  case atStart => exact ⟨0, rfl, Nat.zero_le _, H1⟩
  case round =>
    obtain ⟨k, rfl, hk, HO⟩ := hrel
    by_cases hlt : k < n
    · obtain ⟨p, hp⟩ : ∃ p, kept[k]? = some p := ⟨_, List.getElem?_eq_getElem (by rw [HN.out]; exact hlt)⟩
      obtain ⟨hM, hB, hs⟩ := HO.out
      obtain ⟨b, off, rfl, hb, hc⟩ := (TwoAt.low hB HU.out).at (by omega)
      obtain ⟨c0, c1⟩ := hc k p hp
      obtain ⟨hps, hpv⟩ := HWK.out p (List.mem_of_getElem? hp)
      obtain ⟨W2, hW2⟩ : ∃ W2, wr.alloc (prObj p) = W2 := ⟨_, rfl⟩
      have hB2 : Below wr.heap.size wr W2 := by rw [← hW2]; exact alloc_low _ _
      have hP2 : W2.heap[wr.heap.size]? = some (prObj p) := by rw [← hW2]; exact heap_alloc_new wr _
      obtain ⟨e0, e1⟩ := boxP hP2
      have hM2 : MapU W2 mb (ll + k) ((kept.take k).foldl (joinIn x) (grpF x l)) := hM.below hB2
      have hlook := hM2.lookOk hps
      have hst := foldl_take (x := x) (F := grpF x l) hp
      have HK1 : Hid (k + 1 ≤ n) := Lib.hid hlt
      have HW2 := Lib.hid hW2
      have hBw : Below w.heap.size w W2 := hB.trans (hB2.mono hB.size)
      have hsz2 := hB2.size
      cases hF : (kept.take k).foldl (joinIn x) (grpF x l) p.key with
      | none =>
        rw [hF] at hlook
        have HLK : Hid ((Instr.lookup 130 (.map (some mb)) (.string p.key) true).run Try.prog W2 = .ok (.tuple #[.int .u32 0, .bool false]) W2) := Lib.hid hlook
        have HF : Hid (MapU W2 mb (ll + (k + 1)) ((kept.take (k + 1)).foldl (joinIn x) (grpF x l)) ∧ Below w.heap.size w W2 ∧ mb < W2.heap.size) := Lib.hid ⟨MapV.mono (MapV.same hM2 fun s _ => by
          show ((kept.take k).foldl (joinIn x) (grpF x l) s).map u32V = ((kept.take (k + 1)).foldl (joinIn x) (grpF x l) s).map u32V
          rw [hst, joinIn_at]
          by_cases hs : s = p.key
          · subst hs; rw [if_pos rfl, hF]; rfl
          · rw [if_neg hs]) (by omega), hBw, by omega⟩
        clear hM hB hc hp hps hpv hW2 hB2 hP2 hM2 hlook hst hF hBw HO hb hsz2
        go_upto_region 5 with fail
        rw [HW2.out]
        go_wp2_with (at_lookup; refine wpList_lookup_ran rfl _ _ _ _ rfl rfl rfl HLK.out ?_)
        go_roundw
        case rel => exact ⟨k + 1, by go_num, HK1.out, HF⟩
        case measure => have h := HK1.out; simp [intOf]; omega
      | some y =>
        rw [hF] at hlook
        have HLK : Hid ((Instr.lookup 130 (.map (some mb)) (.string p.key) true).run Try.prog W2 = .ok (.tuple #[.int .u32 (y : Nat), .bool true]) W2) := Lib.hid hlook
        have hyl : y < 4294967296 := foldJ_lt x (kept.take k) (grpF x l) (HWK.out.of_mem fun q hq => List.mem_of_mem_take hq) (fun k v h => grpF_lt HWF.out h) _ _ hF
        have CJ := Lib.hid (join_calls x y p.val hyl hpv W2.drew)
        obtain ⟨W3, R3, M3, G3, s3⟩ := (hM2.at (W' := W2.drew) rfl).store (by omega) hps (jnN x y p.val)
        have HR3 := Lib.hid R3
        have HF : Hid (MapU W3 mb (ll + (k + 1)) ((kept.take (k + 1)).foldl (joinIn x) (grpF x l)) ∧ Below w.heap.size w W3 ∧ mb < W3.heap.size) := Lib.hid ⟨MapV.same M3 fun s _ => by
          show (if s = p.key then some (jnN x y p.val) else (kept.take k).foldl (joinIn x) (grpF x l) s).map u32V = ((kept.take (k + 1)).foldl (joinIn x) (grpF x l) s).map u32V
          rw [hst]
          congr 1
          rw [joinIn_at]
          by_cases hs : s = p.key
          · subst hs; rw [if_pos rfl, if_pos rfl, hF]; rfl
          · rw [if_neg hs, if_neg hs], (⟨hBw.os, hBw.tape, hBw.output, hBw.size, hBw.block⟩ : Below w.heap.size w W2.drew).grown G3 hBw.size (fun j hj => by have := HMB.out; cases hj; exact this), by rw [s3]; show mb < W2.heap.size; omega⟩
        have HP2 := Lib.hid hP2
        clear hM hB hc hp hps hpv hW2 hB2 hP2 hM2 hlook hst hF hBw HO hb hsz2 R3 M3 G3 s3 hyl
        go_upto_region 5 with fail
        rw [HW2.out]
        go_wp2_with (at_lookup; refine wpList_lookup_ran rfl _ _ _ _ rfl rfl rfl HLK.out ?_)
        refine wp_region_noPanic ?_
        refine wp_region_held_tail (C := fun w' => w'.heap[wr.heap.size]? = some (prObj p)) [0, 1, 2, 3, 4, 5, 6] [7, 8] 8 (by kernel_rfl) (by kernel_rfl) (fun _ _ _ _ _ h => h) ?_ ?_
        · exact HP2.out
        iterate 7
          refine heldI_step (v := ?_) rfl (by rfl) (fun w' hw' => ?_) ?_
          rotate_left
          · obtain ⟨k0, k1⟩ := boxP hw'
            go_simp
            all_goals with_reducible rfl
          simp only [Act.put, List.getElem_toArray, List.getElem_cons_succ, List.getElem_cons_zero, List.setIfInBounds_toArray, List.set_cons_succ, List.set_cons_zero]
        refine heldI_nil ?_
        refine seqI_step rfl ?_
        simp only [List.getElem_toArray, List.getElem_cons_succ, List.getElem_cons_zero]
        go_wp2_with (go_at_call 112; ((with_reducible refine CJ.out.mono ?_); rintro e W4 ⟨rfl, rfl⟩))
        refine ⟨HP2.out, ?_⟩
        refine seqI_last rfl ?_
        simp only [List.getElem_toArray, List.getElem_cons_succ, List.getElem_cons_zero]
        go_wp2_with (at_mapUpdate; refine wpList_mapUpdate_ran rfl _ _ _ _ rfl rfl rfl rfl HR3.out ?_)
        refine NoPanic.normal ?_
        go_wp2_with fail
        go_roundw
        case rel => exact ⟨k + 1, by go_num, HK1.out, HF⟩
        case measure => have h := HK1.out; simp [intOf]; omega
    · obtain rfl : k = n := by omega
      obtain ⟨hM, hB, hs⟩ := HO.out
      rw [List.take_of_length_le (by rw [HN.out]; exact Nat.le_refl _)] at hM
      have CR := rising_calls mb (ll + k) _ (keysL l) (keysL_nodup l) (fun s hs => by obtain ⟨p, hp, rfl⟩ := mem_keysL.1 hs; exact (HWF.out p hp).1) (fun s _ => by rw [foldJ_some]; exact grpF_some) (by omega) wr hM
      have HCR := Lib.hid CR
      have HB := Lib.hid hB
      clear hM hB hs CR HO
      go_wp2_with fail
      refine HCR.out.mono ?_
      rintro e w2 ⟨r, rfl, hO, hB2⟩
      have HF : Hid (RetP (foldedN x l kept) w (.returned r) w2) := Lib.hid ⟨r, rfl, hO.base HB.out.size, HB.out.trans (hB2.mono HB.out.size)⟩
      clear hO hB2
      go_wp2_with fail
      go_ret
      exact HF.out

end Go.Proofs.Ytmfndimejnbgkaa.Model
