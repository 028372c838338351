/-
  Contracts of the document's SamePairs and SameState.
-/
import Derived.Test.YtmfndimejnbgkaaModelState
namespace Go.Proofs.Ytmfndimejnbgkaa.Model
open Go Go.RowKit Go.Lib Go.Sort Go.Shelf Go.Maps Go.Proofs.Ytmfndimejnbgkaa.Law Go.Proofs.Ytmfndimejnbgkaa.Graph Go.Proofs.Ytmfndimejnbgkaa.Fold

theorem take_same {l m : List Pr} {k : Nat} {p o : Pr} (hp : l[k]? = some p) (ho : m[k]? = some o) (h : l.take k = m.take k) (he : p = o) : l.take (k + 1) = m.take (k + 1) := by
  rw [Graph.take_snoc hp, Graph.take_snoc ho, h, he]

set_option maxRecDepth 100000 in
set_option maxHeartbeats 4000000 in
theorem samePairs_calls (l m : List Pr) (hl : l.length * 24 ≤ 140737488355328) (hm : m.length * 24 ≤ 140737488355328) (g : Bool) (hg : g = true ↔ l = m) (v u : Value) (w : World) (h : OldP w.heap.size w v l) (hu : OldP w.heap.size w u m) :
    Calls Try.prog 32 #[v, u] w (RetB w g) := by
  obtain ⟨A, cap, rfl, _⟩ := h.form
  obtain ⟨B, kap, rfl, _⟩ := hu.form
  obtain ⟨n, hN⟩ : ∃ n, l.length = n := ⟨_, rfl⟩
  obtain ⟨n2, hN2⟩ : ∃ n2, m.length = n2 := ⟨_, rfl⟩
  rw [hN] at h hl ⊢
  rw [hN2] at hu hm ⊢
  by_cases hnn2 : n = n2
  · subst hnn2
    have g1 : ((n : Int) != (n : Int)) = false := by simp [bne]
    have HN := Lib.hid hN
    have HN2 := Lib.hid hN2
    have HI := Lib.hid h
    have HU := Lib.hid hu
    have HG := Lib.hid hg
    have hnn : n ≤ 5864062014805 := by omega
    clear hN hN2 h hu hg hl hm
    go_enter Try.func32, Try.ntmps32
    go_wp2_with fail
    go_loopw [5] (fun i wr => ∃ k : Nat, i = .int .i64 k ∧ k ≤ n ∧ Hid (l.take k = m.take k ∧ Below w.heap.size w wr)) (fun i _ => n - (intOf i).toNat)
    case atStart => exact ⟨0, rfl, Nat.zero_le _, Lib.hid ⟨rfl, Below.refl _ _⟩⟩
    case round =>
      obtain ⟨k, rfl, hk, HO⟩ := hrel
      by_cases hlt : k < n
      · obtain ⟨p, hp⟩ : ∃ p, l[k]? = some p := ⟨_, List.getElem?_eq_getElem (by rw [HN.out]; exact hlt)⟩
        obtain ⟨o, ho⟩ : ∃ o, m[k]? = some o := ⟨_, List.getElem?_eq_getElem (by rw [HN2.out]; exact hlt)⟩
        obtain ⟨hK, hB⟩ := HO.out
        obtain ⟨b, off, rfl, hb, hc⟩ := (TwoAt.low hB HI.out).at (by omega)
        obtain ⟨b2, off2, rfl, hb2, hc2⟩ := (TwoAt.low hB HU.out).at (by omega)
        obtain ⟨c0, c1⟩ := hc k p hp
        obtain ⟨d0, d1⟩ := hc2 k o ho
        have HK1 : Hid (k + 1 ≤ n) := Lib.hid hlt
        have HB := Lib.hid hB
        have hbad : p ≠ o → Hid (g = false) := fun hno => Lib.hid (by
          cases g with
          | false => rfl
          | true =>
            have e := HG.out.1 rfl
            rw [e, ho] at hp
            exact absurd (Option.some.inj hp).symm hno)
        have hgo : p = o → Hid (l.take (k + 1) = m.take (k + 1)) := fun e => Lib.hid (take_same hp ho hK e)
        by_cases hkey : p.key = o.key
        · have ek : (p.key != o.key) = false := by rw [hkey]; simp [bne]
          by_cases hval : p.val = o.val
          · have ev : (((p.val : Nat) : Int) != ((o.val : Nat) : Int)) = false := by rw [hval]; simp [bne]
            have HGO := hgo (Pr.ext hkey hval)
            dsimp only [pk, pv] at c0 c1 d0 d1
            rw [← hkey] at d0
            rw [← hval] at d1
            clear hK hB hb hb2 hc hc2 hp ho hbad hgo HO hkey hval ek ev
            go_wp2_with fail
            go_quiet (fail)
            go_wp2_with fail
            go_roundw
            case rel => exact ⟨k + 1, by go_num, HK1.out, Lib.hid ⟨HGO.out, below_drewN' HB.out nq⟩⟩
            case measure => have h := HK1.out; simp [intOf]; omega
          · have ev : (((p.val : Nat) : Int) != ((o.val : Nat) : Int)) = true := by rw [bne_iff_ne]; omega
            have HBAD := hbad fun h => hval (by rw [h])
            dsimp only [pk, pv] at c0 c1 d0 d1
            rw [← hkey] at d0
            clear hK hB hb hb2 hc hc2 hp ho hbad hgo HO hkey hval ek
            go_wp2_with fail
            go_quiet (fail)
            go_wp2_with fail
            go_ret
            exact ⟨by rw [HBAD.out]; rfl, below_drewN' HB.out nq⟩
        · have ek : (p.key.toList == o.key.toList) = false := by
            rw [beq_eq_false_iff_ne]
            intro h0
            apply hkey
            rw [Lib.toList_data, Lib.toList_data] at h0
            exact ByteArray.ext (Array.toList_inj.1 h0)
          have HBAD := hbad fun h => hkey (by rw [h])
          dsimp only [pk, pv] at c0 c1 d0 d1
          clear hK hB hb hb2 hc hc2 hp ho hbad hgo HO
          go_wp2_with fail
          go_quiet (fail)
          go_wp2_with fail
          go_ret
          exact ⟨by rw [HBAD.out]; rfl, below_drewN' HB.out nq⟩
      · obtain rfl : k = n := by omega
        obtain ⟨hK, hB⟩ := HO.out
        rw [List.take_of_length_le (by rw [HN.out]; exact Nat.le_refl _), List.take_of_length_le (by rw [HN2.out]; exact Nat.le_refl _)] at hK
        have HF : Hid (g = true) := Lib.hid (HG.out.2 hK)
        have HB := Lib.hid hB
        clear hK hB HO
        go_wp2_with fail
        go_ret
        exact ⟨by rw [HF.out]; rfl, HB.out⟩
  · have HBAD : Hid (g = false) := Lib.hid (by
      cases g with
      | false => rfl
      | true => exact absurd (by rw [← hN, ← hN2, hg.1 rfl]) hnn2)
    have hI2 : ((n : Int) != (n2 : Int)) = true := by rw [bne_iff_ne]; omega
    clear hN hN2 h hu hg hl hm
    go_enter Try.func32, Try.ntmps32
    go_wp2_with fail
    go_ret
    exact ⟨by rw [HBAD.out]; rfl, Below.refl _ _⟩

end Go.Proofs.Ytmfndimejnbgkaa.Model
