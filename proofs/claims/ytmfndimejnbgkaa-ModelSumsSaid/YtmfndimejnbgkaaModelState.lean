/-
  Contracts of the model's Good and Empty.
-/
import Derived.Test.YtmfndimejnbgkaaModelGood
namespace Go.Proofs.Ytmfndimejnbgkaa.Model
open Go Go.RowKit Go.Lib Go.Sort Go.Shelf Go.Maps Go.Proofs.Ytmfndimejnbgkaa.Law Go.Proofs.Ytmfndimejnbgkaa.Graph Go.Proofs.Ytmfndimejnbgkaa.Fold

def okS (g : List Opr) (st : List (List Pr)) (i : Nat) : Prop := ∀ (l : List Pr) (x : Opr), st[i]? = some l → g[i]? = some x → (x.kind = 4 ∨ l = []) ∧ goodK l
theorem goodS_of {g : List Opr} {st : List (List Pr)} (hl : st.length = g.length) : goodS g st ↔ st.length = 0 ∨ ∀ i, i < st.length → okS g st i := by
  unfold goodS
  constructor
  · rintro (h | ⟨_, h⟩)
    · exact .inl h
    · exact .inr fun i _ l x h1 h2 => h i l x h1 h2
  · rintro (h | h)
    · exact .inl h
    · exact .inr ⟨hl, fun i l x h1 h2 => h i (List.getElem?_eq_some_iff.1 h1).1 l x h1 h2⟩
abbrev gObj (v : Value) : Obj := .cells #[v] 30
abbrev sObj (v : Value) : Obj := .cells #[v] 33

set_option maxRecDepth 100000 in
set_option maxHeartbeats 4000000 in
theorem good_calls (l : List Opr) (st : List (List Pr)) (hl : l.length * 72 ≤ 140737488355328) (hst : st.length * 24 ≤ 140737488355328) (hss : ∀ p ∈ st, p.length * 24 ≤ 140737488355328) (b : Bool) (hb : b = true ↔ goodS l st) (v u : Value) (w : World) (h : OldO w.heap.size w v l) (hu : OldF w.heap.size w u st) :
    Calls Try.prog 14 #[.agg #[v], .agg #[u]] w (RetB w b) := by
  obtain ⟨A, cap, rfl, _⟩ := h.form
  obtain ⟨B, kap, rfl, _⟩ := hu.form
  obtain ⟨n, hN⟩ : ∃ n, st.length = n := ⟨_, rfl⟩
  obtain ⟨m, hM⟩ : ∃ m, l.length = m := ⟨_, rfl⟩
  rw [hN] at hu hst ⊢
  rw [hM] at h hl ⊢
  obtain ⟨q, hq⟩ : ∃ q, w.heap.size = q := ⟨_, rfl⟩
  obtain ⟨W1, hW1⟩ : ∃ W1, (w.alloc (gObj (.slice A m cap))).alloc (sObj (.slice B n kap)) = W1 := ⟨_, rfl⟩
  have hB1 : Below q w W1 := by rw [← hW1, ← hq]; exact ((Below.refl _ _).alloc (Nat.le_refl _) _).alloc (by simp) _
  have hg1 : W1.heap[q]? = some (gObj (.slice A m cap)) := by rw [← hW1, ← hq]; exact (Below.heap_alloc _ _ _ (by simp)).trans (heap_alloc_new w _)
  have hs1 : W1.heap[q + 1]? = some (sObj (.slice B n kap)) := by
    rw [← hW1, ← hq]
    have := heap_alloc_new (w.alloc (gObj (.slice A m cap))) (sObj (.slice B n kap))
    rwa [World.size_alloc] at this
  have hz1 : W1.heap.size = q + 2 := by rw [← hW1, ← hq]; simp
  obtain ⟨c0, _⟩ := box1 hg1
  obtain ⟨c1, _⟩ := box1 hs1
  have HW := Lib.hid hW1
  have HB1 := Lib.hid hB1
  have HG1 := Lib.hid hg1
  have HS1 := Lib.hid hs1
  have HQ := Lib.hid hq
  have HN := Lib.hid hN
  have HM := Lib.hid hM
  have HI := Lib.hid h
  have HU := Lib.hid hu
  have HB := Lib.hid hb
  have HSS := Lib.hid hss
  have hnn : n ≤ 5864062014805 := by omega
  have hmm : m ≤ 1954687338269 := by omega
  have HBQ : Hid (Below w.heap.size w W1) := Lib.hid (by rw [hq]; exact hB1)
  clear hW1 hB1 hg1 hs1 hN hM h hu hb hss hst hl
  by_cases h0 : n = 0
  · subst h0
    have hbt : Hid (b = true) := Lib.hid (HB.out.2 (.inl HN.out))
    clear hq
    go_enter Try.func14, Try.ntmps14
    go_upto_region 1 with fail
    rw [HW.out, HQ.out]
    go_wp2_with fail
    go_ret
    exact ⟨by rw [hbt.out]; rfl, HBQ.out⟩
  · have g0 : ((n : Int) == 0) = false := by rw [beq_eq_false_iff_ne]; omega
    by_cases hnm : n = m
    · subst hnm
      have g1 : ((n : Int) != (n : Int)) = false := by simp [bne]
      have hgs := goodS_of (g := l) (st := st) (by rw [HN.out, HM.out])
      have HGS : Hid (b = true ↔ ∀ i, i < n → okS l st i) := Lib.hid (by
        rw [HB.out, hgs, HN.out]
        exact ⟨fun h => h.resolve_left h0, .inr⟩)
      clear hq hgs HB
      go_enter Try.func14, Try.ntmps14
      go_upto_region 1 with fail
      rw [HW.out, HQ.out]
      go_wp2_with fail
      go_loopw [22] (fun i wr => ∃ k : Nat, i = .int .i64 k ∧ k ≤ n ∧ Hid ((∀ j, j < k → okS l st j) ∧ Below W1.heap.size W1 wr)) (fun i _ => n - (intOf i).toNat)
      case atStart => exact ⟨0, rfl, Nat.zero_le _, Lib.hid ⟨fun _ h => absurd h (Nat.not_lt_zero _), Below.refl _ _⟩⟩
      case round =>
        obtain ⟨k, rfl, hk, HO⟩ := hrel
        by_cases hlt : k < n
        · obtain ⟨hok, hBr⟩ := HO.out
          obtain ⟨x, hx⟩ : ∃ x, l[k]? = some x := ⟨_, List.getElem?_eq_getElem (by rw [HM.out]; exact hlt)⟩
          obtain ⟨p, hp⟩ : ∃ p, st[k]? = some p := ⟨_, List.getElem?_eq_getElem (by rw [HN.out]; exact hlt)⟩
          have hBwr : Below w.heap.size w wr := HBQ.out.trans (hBr.mono HBQ.out.size)
          obtain ⟨ob, oo, rfl, hob, hoc⟩ := (OpsAt.low hBwr HI.out).at (by omega)
          obtain ⟨fb, fo, rfl, hfb, hfc⟩ := (FoldsAt.low hBwr HU.out).at (by omega)
          obtain ⟨u1, ⟨d0, d1, d2, d3, d4, d5, d6⟩, _⟩ := hoc k x hx
          obtain ⟨pv, f0, hpv⟩ := hfc k p hp
          obtain ⟨PA, pcap, rfl, _⟩ := hpv.form
          obtain ⟨pl, hpl⟩ : ∃ pl, p.length = pl := ⟨_, rfl⟩
          obtain ⟨gk, hgk⟩ := exB (goodK p)
          have CK := goodKeys_calls p (HSS.out p (List.mem_of_getElem? hp)) gk hgk _ wr (hpv.mono fun j hj => Nat.lt_of_lt_of_le hj hBwr.size)
          rw [hpl] at CK f0
          have k0 : wr.cell? ⟨q, 0, none⟩ = some (.slice (some ⟨ob, oo, none⟩) n cap) := by
            have := (hBr.block q (lt_of_some HG1.out)).trans HG1.out
            exact (box1 this).1
          have k1 : wr.cell? ⟨q + 1, 0, none⟩ = some (.slice (some ⟨fb, fo, none⟩) n kap) := by
            have := (hBr.block (q + 1) (lt_of_some HS1.out)).trans HS1.out
            exact (box1 this).1
          have HK1 : Hid (k + 1 ≤ n) := Lib.hid hlt
          have HCK := Lib.hid CK
          have HBW := Lib.hid hBwr
          have HBR := Lib.hid hBr
          have hokk : okS l st k ↔ (x.kind = 4 ∨ p = []) ∧ goodK p := ⟨fun h => h p x hp hx, fun h l' x' h1 h2 => by
            obtain rfl := Option.some.inj (hp.symm.trans h1)
            obtain rfl := Option.some.inj (hx.symm.trans h2)
            exact h⟩
          have hp0 : p = [] ↔ pl = 0 := by rw [← hpl, List.length_eq_zero_iff]
          have hbad : ¬ ((x.kind = 4 ∨ pl = 0) ∧ gk = true) → Hid (b = false) := fun hno => Lib.hid (by
            cases b with
            | false => rfl
            | true => exact absurd (by have := hokk.1 (HGS.out.1 rfl k hlt); rw [hp0] at this; exact ⟨this.1, hgk.2 this.2⟩) hno)
          have hgo : (x.kind = 4 ∨ pl = 0) → gk = true → Hid (∀ j, j < k + 1 → okS l st j) := fun h1 h2 => Lib.hid fun j hj => by
            by_cases hjk : j = k
            · subst hjk; exact hokk.2 ⟨by rw [hp0]; exact h1, hgk.1 h2⟩
            · exact hok j (by omega)
          have hmay : ∃ mk : Bool, mk = true ↔ (x.kind = 4 ∨ pl = 0) := exB _
          by_cases hk4 : x.kind = 4
          · have g4 : (x.kind == 4) = true := by rw [beq_iff_eq]; exact hk4
            cases gk with
            | true =>
              have HGO := hgo (.inl hk4) rfl
              clear hok hBr hx hp hBwr hob hoc hfb hfc hpv hpl hgk CK hokk hp0 hbad hgo hmay hk4 HO
              go_wp2_with fail
              refine HCK.out.mono ?_
              rintro e w2 ⟨rfl, hB2⟩
              have HB2 : Hid (Below W1.heap.size W1 w2) := Lib.hid (HBR.out.trans (hB2.mono HBR.out.size))
              clear hB2
              go_wp2_with fail
              go_roundw
              case rel => exact ⟨k + 1, by go_num, HK1.out, Lib.hid ⟨HGO.out, HB2.out⟩⟩
              case measure => have h := HK1.out; simp [intOf]; omega
            | false =>
              have HBAD := hbad fun h => by have := h.2; cases this
              clear hok hBr hx hp hBwr hob hoc hfb hfc hpv hpl hgk CK hokk hp0 hbad hgo hmay hk4 HO
              go_wp2_with fail
              refine HCK.out.mono ?_
              rintro e w2 ⟨rfl, hB2⟩
              have HB2 : Hid (Below w.heap.size w w2) := Lib.hid (HBW.out.trans (hB2.mono HBW.out.size))
              clear hB2
              go_wp2_with fail
              go_ret
              exact ⟨by rw [HBAD.out]; rfl, HB2.out⟩
          · have g4 : (x.kind == 4) = false := by rw [beq_eq_false_iff_ne]; exact hk4
            by_cases hpl0 : pl = 0
            · have g5 : ((pl : Int) == 0) = true := by rw [beq_iff_eq]; omega
              cases gk with
              | true =>
                have HGO := hgo (.inr hpl0) rfl
                clear hok hBr hx hp hBwr hob hoc hfb hfc hpv hpl hgk CK hokk hp0 hbad hgo hmay hk4 HO hpl0
                go_wp2_with fail
                refine HCK.out.mono ?_
                rintro e w2 ⟨rfl, hB2⟩
                have HB2 : Hid (Below W1.heap.size W1 w2) := Lib.hid (HBR.out.trans (hB2.mono HBR.out.size))
                clear hB2
                go_wp2_with fail
                go_roundw
                case rel => exact ⟨k + 1, by go_num, HK1.out, Lib.hid ⟨HGO.out, HB2.out⟩⟩
                case measure => have h := HK1.out; simp [intOf]; omega
              | false =>
                have HBAD := hbad fun h => by have := h.2; cases this
                clear hok hBr hx hp hBwr hob hoc hfb hfc hpv hpl hgk CK hokk hp0 hbad hgo hmay hk4 HO hpl0
                go_wp2_with fail
                refine HCK.out.mono ?_
                rintro e w2 ⟨rfl, hB2⟩
                have HB2 : Hid (Below w.heap.size w w2) := Lib.hid (HBW.out.trans (hB2.mono HBW.out.size))
                clear hB2
                go_wp2_with fail
                go_ret
                exact ⟨by rw [HBAD.out]; rfl, HB2.out⟩
            · have g5 : ((pl : Int) == 0) = false := by rw [beq_eq_false_iff_ne]; omega
              have HBAD := hbad fun h => by rcases h.1 with h | h
                                            · exact hk4 h
                                            · exact hpl0 h
              clear hok hBr hx hp hBwr hob hoc hfb hfc hpv hpl hgk CK hokk hp0 hbad hgo hmay hk4 HO hpl0
              go_wp2_with fail
              go_ret
              exact ⟨by rw [HBAD.out]; rfl, HBW.out⟩
        · obtain rfl : k = n := by omega
          obtain ⟨hok, hBr⟩ := HO.out
          have HF : Hid (b = true ∧ Below w.heap.size w wr) := Lib.hid ⟨HGS.out.2 hok, HBQ.out.trans (hBr.mono HBQ.out.size)⟩
          clear hok hBr HO
          go_wp2_with fail
          go_ret
          exact ⟨by rw [HF.out.1]; rfl, HF.out.2⟩
    · have g1 : ((n : Int) != (m : Int)) = true := by rw [bne_iff_ne]; omega
      have HBAD : Hid (b = false) := Lib.hid (by
        cases b with
        | false => rfl
        | true =>
          rcases HB.out.1 rfl with h | ⟨h, _⟩
          · rw [HN.out] at h; exact absurd h h0
          · rw [HN.out, HM.out] at h; exact absurd h hnm)
      clear hq HB hnm
      go_enter Try.func14, Try.ntmps14
      go_upto_region 1 with fail
      rw [HW.out, HQ.out]
      go_wp2_with fail
      go_ret
      exact ⟨by rw [HBAD.out]; rfl, HBQ.out⟩

end Go.Proofs.Ytmfndimejnbgkaa.Model
