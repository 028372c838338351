/-
  Contract of the model's rising: a table as pairs, in the order of their keys.
-/
import Derived.Test.YtmfndimejnbgkaaModelTab
namespace Go.Proofs.Ytmfndimejnbgkaa.Model
open Go Go.RowKit Go.Lib Go.Sort Go.Shelf Go.Maps Go.Proofs.Ytmfndimejnbgkaa.Law Go.Proofs.Ytmfndimejnbgkaa.Graph Go.Proofs.Ytmfndimejnbgkaa.Fold

theorem MapU.len {w : World} {b n : Nat} {F : ByteArray → Option Nat} (hm : MapU w b n F) {ks : List ByteArray} (hn : ks.Nodup) (hs : ∀ s ∈ ks, Short s) (hd : ∀ s, Short s → ((F s).isSome ↔ s ∈ ks)) :
    ks.length ≤ n ∧ ∀ ty, (Builtin.len_ #[130] ty #[.map (some b)]).run Try.prog w = .ok (.int .i64 (ks.length : Nat)) w := by
  obtain ⟨D, hown, hl⟩ := hm
  have hp := (keys_perm hown hl hn hs hd).length_eq
  obtain ⟨es, rfl, _⟩ := hown.keysOf
  have h1 : (strKeys (DataW.map es)).length = es.length := by simp [strKeys]
  have h2 : Maps.size (DataW.map es) = es.length := rfl
  rw [List.length_map, h1] at hp
  have h3 := hown.size_le
  refine ⟨by omega, fun ty => ?_⟩
  have := hown.len Try.underlying130 ty
  rw [h2, ← hp] at this
  exact this
theorem tabL_take {ks : List ByteArray} {F : ByteArray → Option Nat} {k : Nat} {s : ByteArray} (h : (sortN ks)[k]? = some s) : (tabL ks F).take (k + 1) = (tabL ks F).take k ++ [⟨s, (F s).getD 0⟩] := by
  have h1 : (tabL ks F)[k]? = some ⟨s, (F s).getD 0⟩ := by unfold tabL; rw [List.getElem?_map, h]; rfl
  exact Graph.take_snoc h1

set_option maxRecDepth 100000 in
set_option maxHeartbeats 4000000 in
theorem rising_calls (b n : Nat) (F : ByteArray → Option Nat) (ks : List ByteArray) (hn : ks.Nodup) (hs : ∀ s ∈ ks, Short s) (hd : ∀ s, Short s → ((F s).isSome ↔ s ∈ ks)) (hlen : n * 16 ≤ 140737488355328) (w : World) (h : MapU w b n F) :
    Calls Try.prog 76 #[.map (some b)] w (RetP (tabL ks F) w) := by
  obtain ⟨i0, hi, hz0, hz1, hz2⟩ := info_parts info_pair
  obtain ⟨hle, hL⟩ := h.len hn hs hd
  obtain ⟨m, hm⟩ : ∃ m, ks.length = m := ⟨_, rfl⟩
  rw [hm] at hle hL
  obtain ⟨q, hq⟩ : ∃ q, w.heap.size = q := ⟨_, rfl⟩
  obtain ⟨W1, hmk, hO1, hG1⟩ := run_make_own w q 41 47 i0 _ 2 Try.underlying41 hi hz0 hz1 .i64 .i64 m (by rw [hz2]; omega) (by simp only [maxLen]; omega) (by omega)
  rw [hq] at hmk hO1
  have hB1 : Below q w W1 := by rw [← hq]; exact ⟨hG1.os, hG1.tape, hG1.output, hG1.size, fun k hk => hG1.block k hk (by simp)⟩
  have hs1 : q + 1 ≤ W1.heap.size := by
    have := (World.ownsRow.lt hO1 q rfl).2
    omega
  have hbq := h.lt
  have hM1 : MapU W1 b n F := h.below (hq ▸ hB1)
  have CS := sorted_calls hM1 hn hs hd hlen
  have CK := keysM_calls b W1
  have hB2 : Below q w (W1.alloc (.cells #[.map (some b)] 130)) := hB1.trans (((Below.refl _ W1).alloc (Nat.le_refl _) _).mono (by omega))
  have hsl : (sortN ks).length = m := by rw [(sortN_perm ks).length_eq, hm]
  have HN := Lib.hid hn
  have HS := Lib.hid hs
  have HL := Lib.hid hL
  have HMK := Lib.hid hmk
  have HO1 := Lib.hid (show OwnP W1 q (.slice (some ⟨q, 0, none⟩) 0 m) [] from hO1)
  have HB1 := Lib.hid hB1
  have HB2 := Lib.hid hB2
  have HS1 := Lib.hid hs1
  have HM1 := Lib.hid hM1
  have HCS := Lib.hid CS
  have HCK := Lib.hid CK
  have HSL := Lib.hid hsl
  have HQ := Lib.hid hq
  have HI := Lib.hid (And.intro hi hz1)
  have hmm : m ≤ 8796093022208 := by omega
  rw [hq] at hbq
  clear hi hz0 hz1 hz2 hL hmk hO1 hG1 hB1 hs1 hM1 CS CK hB2 hsl h hm hn hs hd hlen hle hq
  go_enter Try.func76, Try.ntmps76
  have hlr := HL.out 3
  have hmr := HMK.out
  go_wp2_with fail
  refine HCK.out.mono ?_
  rintro e w2 ⟨rfl, rfl⟩
  clear HCK hlr hmr
  go_wp2_with fail
  refine HCS.out.mono ?_
  rintro e W3 ⟨tv, rfl, hT, hB3⟩
  obtain ⟨TA, tc, rfl, htc⟩ := hT.form
  rw [HSL.out] at htc hT ⊢
  have hT3 : RowAt Value.string (fun j => q + 1 ≤ j ∧ j < W3.heap.size) W3 (.slice TA m tc) (sortN ks) := hT.row.mono (fun j hj => ⟨by have := HS1.out; have := hj.1; omega, hj.2⟩)
  have hB3' : Below q w W3 := HB2.out.trans (hB3.mono (by have := HS1.out; omega))
  have hO3 : OwnP W3 q (.slice (some ⟨q, 0, none⟩) 0 m) [] := HO1.out.keep fun g hg => by
    have hg2 := (HO1.out.own hg).2
    exact (hB3.block g (by omega)).trans (Below.heap_alloc _ _ _ hg2)
  have hM3 : MapU W3 b n F := HM1.out.at ((hB3.block b (by have := HS1.out; omega)).trans (Below.heap_alloc _ _ _ (by have := HS1.out; omega)))
  have hs3 : q + 2 ≤ W3.heap.size := by have h1 := hB3.size; have h2 := HS1.out; rw [World.size_alloc] at h1; omega
  have HT := Lib.hid hT3
  have HB3 := Lib.hid hB3'
  have HO3 := Lib.hid hO3
  have HM3 := Lib.hid hM3
  have HS3 := Lib.hid hs3
  clear hT hT3 hB3' hO3 hM3 hs3 hB3 HCS
  go_wp2_with fail
  go_loopw [3, 13] (fun c i wr => ∃ k : Nat, i = .int .i64 k ∧ k ≤ m ∧ c = .slice (some ⟨q, 0, none⟩) k m ∧ Hid (OwnP wr q (.slice (some ⟨q, 0, none⟩) k m) ((tabL ks F).take k) ∧ W3.grownBy wr (some q))) (fun _ i _ => m - (intOf i).toNat)
  case atStart => exact ⟨0, rfl, Nat.zero_le _, rfl, Lib.hid ⟨by rw [List.take_zero]; exact HO3.out, rfl, rfl, rfl, Nat.le_refl _, fun _ _ _ => rfl⟩⟩
  case round =>
    obtain ⟨k, rfl, hk, rfl, HO⟩ := hrel
    by_cases hlt : k < m
    · obtain ⟨s, hsk⟩ : ∃ s, (sortN ks)[k]? = some s := ⟨_, List.getElem?_eq_getElem (by rw [HSL.out]; exact hlt)⟩
      obtain ⟨hO, hG⟩ := HO.out
      have hTw : RowAt Value.string (fun j => q + 1 ≤ j ∧ j < W3.heap.size) wr (.slice TA m tc) (sortN ks) := HT.out.keep (fun j hj => hG.block j hj.2 (fun e => by have := hj.1; cases e; omega)) (fun j hj => hj)
      obtain ⟨tb, toff, rfl, htb, hc⟩ := hTw.at (by omega)
      have c0 := hc k s hsk
      have hsh : Short s := HS.out s ((sortN_perm ks).mem_iff.1 (List.mem_of_getElem? hsk))
      have hMw : MapU wr b n F := HM3.out.at (hG.block b HM3.out.lt (fun e => by cases e; omega))
      have hlk := hMw.look hsh
      have htl : ((tabL ks F).take k).length = k := by rw [List.length_take, tabL_length, ← (sortN_perm ks).length_eq, HSL.out]; omega
      have hO' : OwnP wr q (.slice (some ⟨q, 0, none⟩) ((tabL ks F).take k).length m) ((tabL ks F).take k) := by rw [htl]; exact hO
      obtain ⟨W4, R4, O4, G4⟩ := OwnTwo.appendRoom (P := Try.prog) wr (t := 41) 41 pk_one pv_one Try.underlying41 HI.out.1 HI.out.2 hO' ⟨s, (F s).getD 0⟩ (by rw [htl]; omega)
      rw [htl] at R4 O4
      obtain ⟨y, hy⟩ : ∃ y, (F s).getD 0 = y := ⟨_, rfl⟩
      have htk := tabL_take (F := F) hsk
      rw [← htk] at O4
      rw [hy] at hlk R4
      have HK1 : Hid (k + 1 ≤ m) := Lib.hid hlt
      have HR4 : Hid ((Builtin.append_ #[41, 41] 41 #[.slice (some ⟨q, 0, none⟩) k m, .slice (some ⟨wr.heap.size, 0, none⟩) 1 1]).run Try.prog (wr.alloc (.cells #[.string s, .int .u32 (y : Nat)] 47)) = .ok (.slice (some ⟨q, 0, none⟩) (k + 1) m) W4) := Lib.hid R4
      have HLK := Lib.hid hlk
      have hG4 : W3.grownBy W4 (some q) := hG.trans G4
      have HF : Hid (OwnP W4 q (.slice (some ⟨q, 0, none⟩) (k + 1) m) ((tabL ks F).take (k + 1)) ∧ W3.grownBy W4 (some q)) := Lib.hid ⟨O4, hG4⟩
      clear hO hG hTw htb hc hsk hsh hMw hlk htl hO' R4 O4 G4 hy htk hG4 HO
      go_wp2_with (first | (at_lookup; refine wpList_lookup_ran rfl _ _ _ _ rfl rfl rfl HLK.out ?_) | (at_builtin; refine wpList_append_ran rfl _ _ _ rfl rfl rfl HR4.out ?_))
      go_roundw
      case rel => exact ⟨k + 1, by go_num, HK1.out, rfl, HF⟩
      case measure => have h := HK1.out; simp [intOf]; omega
    · obtain rfl : k = m := by omega
      obtain ⟨hO, hG⟩ := HO.out
      have htl : (tabL ks F).length = k := by rw [tabL_length, ← (sortN_perm ks).length_eq, HSL.out]
      rw [List.take_of_length_le (by omega)] at hO
      have HF : Hid (RetP (tabL ks F) w (.returned (.slice (some ⟨q, 0, none⟩) k k)) wr) := Lib.hid ⟨_, rfl, by rw [HQ.out]; exact hO, by rw [HQ.out]; exact HB3.out.grown hG (by have := HS3.out; omega) (fun j hj => by cases hj; exact Nat.le_refl _)⟩
      clear hO hG htl HO
      go_wp2_with fail
      go_ret
      exact HF.out

end Go.Proofs.Ytmfndimejnbgkaa.Model
