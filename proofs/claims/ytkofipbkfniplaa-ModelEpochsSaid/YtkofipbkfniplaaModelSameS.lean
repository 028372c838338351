/-
  Contract of the document's SameState.
-/
import Derived.Test.YtkofipbkfniplaaModelSame
namespace Go.Proofs.Ytkofipbkfniplaa.Model
open Go Go.RowKit Go.Lib Go.Sort Go.Shelf Go.Maps Go.Proofs.Ytkofipbkfniplaa.Law Go.Proofs.Ytkofipbkfniplaa.Graph Go.Proofs.Ytkofipbkfniplaa.Fold

/-- The same lists; one that isn't there is the empty one. -/
def SameL (l m : List (List Pr)) : Prop := ∀ i : Nat, l.getD i [] = m.getD i []
/-- The list at a place, as a variable holds it. -/
theorem FoldsAt.pick {S : Nat → Prop} {W : World} {A : Option Addr} {len cap : Nat} {l : List (List Pr)} (h : FoldsAt S W (.slice A len cap) l) (hl : l.length = len) (k : Nat) :
    ∃ xA xn xc, TwoAt pk pv S W (.slice xA xn xc) (l.getD k []) ∧ (¬ k < len → xA = none ∧ xn = 0 ∧ xc = 0) ∧ (k < len → ∃ b off, A = some ⟨b, off, none⟩ ∧ W.cell? ⟨b, off + k, none⟩ = some (.slice xA xn xc)) := by
  by_cases hk : k < len
  · obtain ⟨b, off, e, _, hc⟩ := h.at (by omega)
    have hk' : k < l.length := by omega
    obtain ⟨u, hu, ht⟩ := hc k l[k] (List.getElem?_eq_getElem hk')
    obtain ⟨xA, xc, rfl, _⟩ := ht.form
    refine ⟨xA, _, xc, ?_, fun hn => absurd hk hn, fun _ => ⟨b, off, e, hu⟩⟩
    rw [List.getD_eq_getElem?_getD, List.getElem?_eq_getElem hk']
    exact ht
  · refine ⟨none, 0, 0, ?_, fun _ => ⟨rfl, rfl, rfl⟩, fun h' => absurd h' hk⟩
    rw [List.getD_eq_getElem?_getD, List.getElem?_eq_none (by omega)]
    exact TwoAt.nil _ _

set_option maxRecDepth 100000 in
set_option maxHeartbeats 8000000 in
theorem sameState_calls (l m : List (List Pr)) (hl : l.length * 24 ≤ 140737488355328) (hm : m.length * 24 ≤ 140737488355328) (hls : ∀ i : Nat, (l.getD i []).length * 24 ≤ 140737488355328) (hms : ∀ i : Nat, (m.getD i []).length * 24 ≤ 140737488355328) (g : Bool) (hg : g = true ↔ SameL l m) (v u : Value) (w : World) (h : OldF w.heap.size w v l) (hu : OldF w.heap.size w u m) :
    Calls Try.prog 11 #[.agg #[v], .agg #[u]] w (RetB w g) := by
  obtain ⟨A, cap, rfl, _⟩ := h.form
  obtain ⟨B, kap, rfl, _⟩ := hu.form
  obtain ⟨n, hN⟩ : ∃ n, l.length = n := ⟨_, rfl⟩
  obtain ⟨n2, hN2⟩ : ∃ n2, m.length = n2 := ⟨_, rfl⟩
  rw [hN] at h hl ⊢
  rw [hN2] at hu hm ⊢
  obtain ⟨q, hq⟩ : ∃ q, w.heap.size = q := ⟨_, rfl⟩
  obtain ⟨W1, hW1⟩ : ∃ W1, (w.alloc (sObj (.slice A n cap))).alloc (sObj (.slice B n2 kap)) = W1 := ⟨_, rfl⟩
  have hB1 : Below q w W1 := by rw [← hW1, ← hq]; exact ((Below.refl _ _).alloc (Nat.le_refl _) _).alloc (by simp) _
  have hg1 : W1.heap[q]? = some (sObj (.slice A n cap)) := by rw [← hW1, ← hq]; exact (Below.heap_alloc _ _ _ (by simp)).trans (heap_alloc_new w _)
  have hs1 : W1.heap[q + 1]? = some (sObj (.slice B n2 kap)) := by
    rw [← hW1, ← hq]
    have := heap_alloc_new (w.alloc (sObj (.slice A n cap))) (sObj (.slice B n2 kap))
    rwa [World.size_alloc] at this
  obtain ⟨c0, _⟩ := box1 hg1
  obtain ⟨c1, _⟩ := box1 hs1
  have HW := Lib.hid hW1
  have HB1 := Lib.hid hB1
  have HG1 := Lib.hid hg1
  have HS1 := Lib.hid hs1
  have HQ := Lib.hid hq
  have HN := Lib.hid hN
  have HN2 := Lib.hid hN2
  have HI := Lib.hid h
  have HU := Lib.hid hu
  have HG := Lib.hid hg
  have HLS := Lib.hid hls
  have HMS := Lib.hid hms
  have hnn : n ≤ 5864062014805 := by omega
  have hmm : n2 ≤ 5864062014805 := by omega
  have HBQ : Hid (Below w.heap.size w W1) := Lib.hid (by rw [hq]; exact hB1)
  clear hW1 hB1 hg1 hs1 hN hN2 h hu hg hls hms hl hm hq
  go_enter Try.func11, Try.ntmps11
  go_upto_region 1 with fail
  rw [HW.out, HQ.out]
  go_wp2_with fail
  go_loopw [5] (fun i wr => ∃ k : Nat, i = .int .i64 k ∧ (k ≤ n ∨ k ≤ n2) ∧ Hid ((∀ j, j < k → l.getD j [] = m.getD j []) ∧ Below W1.heap.size W1 wr)) (fun i _ => n + n2 - (intOf i).toNat)
  case atStart => exact ⟨0, rfl, .inl (Nat.zero_le _), Lib.hid ⟨fun _ h => absurd h (Nat.not_lt_zero _), Below.refl _ _⟩⟩
  case round =>
    obtain ⟨k, rfl, hk, HO⟩ := hrel
    obtain ⟨hK, hBr⟩ := HO.out
    have hBwr : Below w.heap.size w wr := HBQ.out.trans (hBr.mono HBQ.out.size)
    have k0 : wr.cell? ⟨q, 0, none⟩ = some (.slice A n cap) := by
      have := (hBr.block q (lt_of_some HG1.out)).trans HG1.out
      exact (box1 this).1
    have k1 : wr.cell? ⟨q + 1, 0, none⟩ = some (.slice B n2 kap) := by
      have := (hBr.block (q + 1) (lt_of_some HS1.out)).trans HS1.out
      exact (box1 this).1
    obtain ⟨xA, xn, xc, hx, hx0, hx1⟩ := (FoldsAt.low hBwr HI.out).pick HN.out k
    obtain ⟨yA, yn, yc, hy, hy0, hy1⟩ := (FoldsAt.low hBwr HU.out).pick HN2.out k
    obtain ⟨gk, hgk⟩ := exB (l.getD k [] = m.getD k [])
    have CK := Lib.hid (samePairs_calls _ _ (HLS.out k) (HMS.out k) gk hgk _ _ wr (hx.mono fun j hj => Nat.lt_of_lt_of_le hj hBwr.size) (hy.mono fun j hj => Nat.lt_of_lt_of_le hj hBwr.size))
    by_cases hlt : k < n ∨ k < n2
    · have hmx : (k : Int) < max (n : Int) (n2 : Int) := by omega
      have HK1 : Hid (k + 1 ≤ n ∨ k + 1 ≤ n2) := Lib.hid (by omega)
      have HGK := Lib.hid hgk
      have HK := Lib.hid hK
      have HBR := Lib.hid hBr
      have HBW := Lib.hid hBwr
      clear hK hBr hBwr hx hy hgk HO hk hlt c0 c1
      by_cases h1 : k < n
      · obtain ⟨b, off, rfl, e0⟩ := hx1 h1
        have hI1 : (k : Int) < (n : Int) := by omega
        clear hx0 hx1
        by_cases h2 : k < n2
        · obtain ⟨b2, off2, rfl, e1⟩ := hy1 h2
          have hI2 : (k : Int) < (n2 : Int) := by omega
          clear hy0 hy1
          go_wp2_with fail
          refine CK.out.mono ?_
          rintro e w2 ⟨rfl, hB2⟩
          have HB2 : Hid (Below W1.heap.size W1 w2) := Lib.hid (HBR.out.trans (hB2.mono HBR.out.size))
          have HBW2 : Hid (Below w.heap.size w w2) := Lib.hid (HBW.out.trans (hB2.mono HBW.out.size))
          clear hB2
          cases gk with
          | true =>
            have HKN : Hid (∀ j, j < k + 1 → l.getD j [] = m.getD j []) := Lib.hid fun j hj => by
              by_cases hjk : j = k
              · subst hjk; exact HGK.out.1 rfl
              · exact HK.out j (by omega)
            go_wp2_with fail
            go_roundw
            case rel => exact ⟨k + 1, by go_num, HK1.out, Lib.hid ⟨HKN.out, HB2.out⟩⟩
            case measure => have h := HK1.out; simp [intOf]; omega
          | false =>
            have HF : Hid (g = false) := Lib.hid (by
              cases g with
              | false => rfl
              | true => have := HGK.out.2 (HG.out.1 rfl k); cases this)
            go_wp2_with fail
            go_ret
            exact ⟨by rw [HF.out]; rfl, HBW2.out⟩
        · obtain ⟨rfl, rfl, rfl⟩ := hy0 h2
          have hI2 : ¬ (k : Int) < (n2 : Int) := by omega
          clear hy0 hy1
          go_wp2_with fail
          refine CK.out.mono ?_
          rintro e w2 ⟨rfl, hB2⟩
          have HB2 : Hid (Below W1.heap.size W1 w2) := Lib.hid (HBR.out.trans (hB2.mono HBR.out.size))
          have HBW2 : Hid (Below w.heap.size w w2) := Lib.hid (HBW.out.trans (hB2.mono HBW.out.size))
          clear hB2
          cases gk with
          | true =>
            have HKN : Hid (∀ j, j < k + 1 → l.getD j [] = m.getD j []) := Lib.hid fun j hj => by
              by_cases hjk : j = k
              · subst hjk; exact HGK.out.1 rfl
              · exact HK.out j (by omega)
            go_wp2_with fail
            go_roundw
            case rel => exact ⟨k + 1, by go_num, HK1.out, Lib.hid ⟨HKN.out, HB2.out⟩⟩
            case measure => have h := HK1.out; simp [intOf]; omega
          | false =>
            have HF : Hid (g = false) := Lib.hid (by
              cases g with
              | false => rfl
              | true => have := HGK.out.2 (HG.out.1 rfl k); cases this)
            go_wp2_with fail
            go_ret
            exact ⟨by rw [HF.out]; rfl, HBW2.out⟩
      · obtain ⟨rfl, rfl, rfl⟩ := hx0 h1
        have hI1 : ¬ (k : Int) < (n : Int) := by omega
        clear hx0 hx1
        by_cases h2 : k < n2
        · obtain ⟨b2, off2, rfl, e1⟩ := hy1 h2
          have hI2 : (k : Int) < (n2 : Int) := by omega
          clear hy0 hy1
          go_wp2_with fail
          refine CK.out.mono ?_
          rintro e w2 ⟨rfl, hB2⟩
          have HB2 : Hid (Below W1.heap.size W1 w2) := Lib.hid (HBR.out.trans (hB2.mono HBR.out.size))
          have HBW2 : Hid (Below w.heap.size w w2) := Lib.hid (HBW.out.trans (hB2.mono HBW.out.size))
          clear hB2
          cases gk with
          | true =>
            have HKN : Hid (∀ j, j < k + 1 → l.getD j [] = m.getD j []) := Lib.hid fun j hj => by
              by_cases hjk : j = k
              · subst hjk; exact HGK.out.1 rfl
              · exact HK.out j (by omega)
            go_wp2_with fail
            go_roundw
            case rel => exact ⟨k + 1, by go_num, HK1.out, Lib.hid ⟨HKN.out, HB2.out⟩⟩
            case measure => have h := HK1.out; simp [intOf]; omega
          | false =>
            have HF : Hid (g = false) := Lib.hid (by
              cases g with
              | false => rfl
              | true => have := HGK.out.2 (HG.out.1 rfl k); cases this)
            go_wp2_with fail
            go_ret
            exact ⟨by rw [HF.out]; rfl, HBW2.out⟩
        · obtain ⟨rfl, rfl, rfl⟩ := hy0 h2
          have hI2 : ¬ (k : Int) < (n2 : Int) := by omega
          clear hy0 hy1
          exact absurd HK1.out (by omega)
    · have hmx : ¬ (k : Int) < max (n : Int) (n2 : Int) := by omega
      have HF : Hid (g = true) := Lib.hid (HG.out.2 fun i => by
        by_cases hi : i < k
        · exact hK i hi
        · rw [List.getD_eq_getElem?_getD, List.getD_eq_getElem?_getD, List.getElem?_eq_none (by rw [HN.out]; omega), List.getElem?_eq_none (by rw [HN2.out]; omega)])
      have HB := Lib.hid hBwr
      clear hK hBr hBwr hx hy hgk HO hk hlt c0 c1 hx0 hx1 hy0 hy1 CK
      go_wp2_with fail
      go_ret
      exact ⟨by rw [HF.out]; rfl, HB.out⟩

end Go.Proofs.Ytkofipbkfniplaa.Model
