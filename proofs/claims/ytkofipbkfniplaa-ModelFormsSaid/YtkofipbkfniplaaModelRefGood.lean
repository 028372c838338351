/-
  Contract of the document's Good.
-/
import Derived.Test.YtkofipbkfniplaaModelState
namespace Go.Proofs.Ytkofipbkfniplaa.Model
open Go Go.RowKit Go.Lib Go.Sort Go.Shelf Go.Maps Go.Proofs.Ytkofipbkfniplaa.Law Go.Proofs.Ytkofipbkfniplaa.Graph Go.Proofs.Ytkofipbkfniplaa.Fold

set_option maxRecDepth 100000 in
set_option maxHeartbeats 8000000 in
theorem refGood_calls (l : List Opr) (st : List (List Pr)) (hl : l.length * 72 ≤ 140737488355328) (hst : st.length * 24 ≤ 140737488355328) (hss : ∀ p ∈ st, p.length * 24 ≤ 140737488355328) (b : Bool) (hb : b = true ↔ goodS l st) (v u : Value) (w : World) (h : OldO w.heap.size w v l) (hu : OldF w.heap.size w u st) :
    Calls Try.prog 13 #[.agg #[v], .agg #[u]] w (RetB w b) := by
  obtain ⟨A, cap, rfl, _⟩ := h.form
  obtain ⟨B, kap, rfl, _⟩ := hu.form
  obtain ⟨n, hN⟩ : ∃ n, st.length = n := ⟨_, rfl⟩
  obtain ⟨m, hM⟩ : ∃ m, l.length = m := ⟨_, rfl⟩
  rw [hN] at hu hst ⊢
  rw [hM] at h hl ⊢
  obtain ⟨q, hq⟩ : ∃ q, w.heap.size = q := ⟨_, rfl⟩
  obtain ⟨W1, hW1⟩ : ∃ W1, (w.alloc (gObj (.slice A m cap))).alloc (sObj (.slice B n kap)) = W1 := ⟨_, rfl⟩
  have hB1 : Below q w W1 := by rw [← hW1, ← hq]; exact ((Below.refl _ _).alloc (Nat.le_refl _) _).alloc (by simp) _
  have hg1 : W1.heap[q]? = some (gObj (.slice A m cap)) := by rw [← hW1, ← hq]; exact (Below.heap_alloc _ _ _ (by simp)).trans (heap_alloc_new w _)
  have hs1 : W1.heap[q + 1]? = some (sObj (.slice B n kap)) := by
    rw [← hW1, ← hq]
    have := heap_alloc_new (w.alloc (gObj (.slice A m cap))) (sObj (.slice B n kap))
    rwa [World.size_alloc] at this
  have hz1 : W1.heap.size = q + 2 := by rw [← hW1, ← hq]; simp
  obtain ⟨c0, _⟩ := box1 hg1
  obtain ⟨c1, _⟩ := box1 hs1
  have HW := Lib.hid hW1
  have HB1 := Lib.hid hB1
  have HG1 := Lib.hid hg1
  have HS1 := Lib.hid hs1
  have HQ := Lib.hid hq
  have HN := Lib.hid hN
  have HM := Lib.hid hM
  have HI := Lib.hid h
  have HU := Lib.hid hu
  have HB := Lib.hid hb
  have HSS := Lib.hid hss
  have hnn : n ≤ 5864062014805 := by omega
  have hmm : m ≤ 1954687338269 := by omega
  have HBQ : Hid (Below w.heap.size w W1) := Lib.hid (by rw [hq]; exact hB1)
  clear hW1 hB1 hg1 hs1 hN hM h hu hb hss hst hl
  by_cases h0 : n = 0
  · subst h0
    have hbt : Hid (b = true) := Lib.hid (HB.out.2 (.inl HN.out))
    clear hq
    go_enter Try.func13, Try.ntmps13
    go_upto_region 1 with fail
    rw [HW.out, HQ.out]
    go_wp2_with fail
    go_ret
    exact ⟨by rw [hbt.out]; rfl, HBQ.out⟩
  · have g0 : ((n : Int) == 0) = false := by rw [beq_eq_false_iff_ne]; omega
    by_cases hnm : n = m
    · subst hnm
      have g1 : ((n : Int) != (n : Int)) = false := by simp [bne]
      have hgs := goodS_of (g := l) (st := st) (by rw [HN.out, HM.out])
      have HGS : Hid (b = true ↔ ∀ i, i < n → okS l st i) := Lib.hid (by
        rw [HB.out, hgs, HN.out]
        exact ⟨fun h => h.resolve_left h0, .inr⟩)
      clear hq hgs HB
      go_enter Try.func13, Try.ntmps13
      go_upto_region 1 with fail
      rw [HW.out, HQ.out]
      go_wp2_with fail
      go_loopw [5] (fun i wr => ∃ k : Nat, i = .int .i64 k ∧ k ≤ n ∧ Hid ((∀ j, j < k → okS l st j) ∧ Below W1.heap.size W1 wr)) (fun i _ => n - (intOf i).toNat)
      case atStart => exact ⟨0, rfl, Nat.zero_le _, Lib.hid ⟨fun _ h => absurd h (Nat.not_lt_zero _), Below.refl _ _⟩⟩
      case round =>
        obtain ⟨k, rfl, hk, HO⟩ := hrel
        by_cases hlt : k < n
        · obtain ⟨hok, hBr⟩ := HO.out
          obtain ⟨x, hx⟩ : ∃ x, l[k]? = some x := ⟨_, List.getElem?_eq_getElem (by rw [HM.out]; exact hlt)⟩
          obtain ⟨p, hp⟩ : ∃ p, st[k]? = some p := ⟨_, List.getElem?_eq_getElem (by rw [HN.out]; exact hlt)⟩
          have hBwr : Below w.heap.size w wr := HBQ.out.trans (hBr.mono HBQ.out.size)
          obtain ⟨ob, oo, rfl, hob, hoc⟩ := (OpsAt.low hBwr HI.out).at (by omega)
          obtain ⟨fb, fo, rfl, hfb, hfc⟩ := (FoldsAt.low hBwr HU.out).at (by omega)
          obtain ⟨u1, ⟨d0, d1, d2, d3, d4, d5, d6⟩, _⟩ := hoc k x hx
          obtain ⟨pv, f0, hpv⟩ := hfc k p hp
          obtain ⟨PA, pcap, rfl, _⟩ := hpv.form
          obtain ⟨pl, hpl⟩ : ∃ pl, p.length = pl := ⟨_, rfl⟩
          obtain ⟨W0, rfl⟩ : ∃ W0, W0 = wr := ⟨_, rfl⟩
          have k0 : W0.cell? ⟨q, 0, none⟩ = some (.slice (some ⟨ob, oo, none⟩) n cap) := by
            have := (hBr.block q (lt_of_some HG1.out)).trans HG1.out
            exact (box1 this).1
          have k1 : W0.cell? ⟨q + 1, 0, none⟩ = some (.slice (some ⟨fb, fo, none⟩) n kap) := by
            have := (hBr.block (q + 1) (lt_of_some HS1.out)).trans HS1.out
            exact (box1 this).1
          have hpb := HSS.out p (List.mem_of_getElem? hp)
          rw [hpl] at hpb f0 hpv
          have hpln : pl ≤ 5864062014805 := by omega
          have HK1 : Hid (k + 1 ≤ n) := Lib.hid hlt
          have HBW := Lib.hid hBwr
          have HBR := Lib.hid hBr
          have HPL := Lib.hid hpl
          have HPV := Lib.hid hpv
          have hokk : okS l st k ↔ (x.kind = 4 ∨ p = []) ∧ goodK p := ⟨fun h => h p x hp hx, fun h l' x' h1 h2 => by
            obtain rfl := Option.some.inj (hp.symm.trans h1)
            obtain rfl := Option.some.inj (hx.symm.trans h2)
            exact h⟩
          have hp0 : p = [] ↔ pl = 0 := by rw [← hpl, List.length_eq_zero_iff]
          have HBADN : Hid (¬ ((x.kind = 4 ∨ pl = 0) ∧ goodK p) → b = false) := Lib.hid (fun hno => by
            cases b with
            | false => rfl
            | true => exact absurd (by have := hokk.1 (HGS.out.1 rfl k hlt); rw [hp0] at this; exact this) hno)
          have HGON : Hid ((x.kind = 4 ∨ pl = 0) → goodK p → ∀ j, j < k + 1 → okS l st j) := Lib.hid fun h1 h2 j hj => by
            by_cases hjk : j = k
            · subst hjk; exact hokk.2 ⟨by rw [hp0]; exact h1, h2⟩
            · exact hok j (by omega)
          clear hok hBr hx hp hBwr hob hoc hfb hfc hpl hpv hokk hp0 HO hpb
          by_cases hbad : 0 < pl ∧ ¬ x.kind = 4
          · obtain ⟨hpl0, hk4⟩ := hbad
            have g5 : (0 : Int) < (pl : Int) := by omega
            have g4 : (x.kind != 4) = true := by rw [bne_iff_ne]; exact hk4
            have HF : Hid (b = false) := Lib.hid (HBADN.out (by rintro ⟨h | h, _⟩ <;> omega))
            clear HGON HBADN
            go_wp2_with fail
            go_ret
            exact ⟨by rw [HF.out]; rfl, HBW.out⟩
          · have hmay : x.kind = 4 ∨ pl = 0 := by omega
            have HGO : Hid (goodK p → ∀ j, j < k + 1 → okS l st j) := Lib.hid fun h => HGON.out hmay h
            have HBD : Hid (¬ goodK p → b = false) := Lib.hid fun h => HBADN.out fun h2 => h h2.2
            clear HGON HBADN hbad
            rcases Nat.eq_zero_or_pos pl with h0 | h0
            · subst h0
              clear hmay
              have hN0 : goodK p := by rw [List.eq_nil_of_length_eq_zero HPL.out]; exact goodK_nil
              have HOK := Lib.hid (HGO.out hN0)
              clear hN0
              go_wp2_with fail
              clear k0 k1 f0 d0 d1 d2 d3 d4 d5 d6
              go_loopw [7] (fun i wr => i = .int .i64 0 ∧ wr = W0) (fun i _ => 1 - (intOf i).toNat)
              case atStart => exact ⟨rfl, rfl⟩
              case round =>
                obtain ⟨rfl, rfl⟩ := hrel
                go_wp2_with fail
                go_roundw
                case rel => exact ⟨k + 1, by go_num, HK1.out, Lib.hid ⟨HOK.out, HBR.out⟩⟩
                case measure => have h := HK1.out; simp [intOf]; omega
            · have g5 : (0 : Int) < (pl : Int) := by omega
              have hk4 : x.kind = 4 := by omega
              have g4 : (x.kind != 4) = false := by rw [hk4]; rfl
              clear hmay hk4
              go_wp2_with fail
              clear g4 h0 g5 k0 k1 f0 d0 d1 d2 d3 d4 d5 d6
              go_loopw [7] (fun i wr => ∃ j : Nat, i = .int .i64 j ∧ j ≤ pl ∧ Hid (goodK (p.take j) ∧ Below W0.heap.size W0 wr)) (fun i _ => pl - (intOf i).toNat)
              case atStart => exact ⟨0, rfl, Nat.zero_le _, Lib.hid ⟨by rw [List.take_zero]; exact goodK_nil, Below.refl _ _⟩⟩
              case round =>
                obtain ⟨j, rfl, hj, HO⟩ := hrel
                obtain ⟨hK, hB⟩ := HO.out
                have hBW0 : Below w.heap.size w wr := HBW.out.trans (hB.mono HBW.out.size)
                have hBR0 : Below W1.heap.size W1 wr := HBR.out.trans (hB.mono HBR.out.size)
                by_cases hjlt : j < pl
                · obtain ⟨o, ho⟩ : ∃ o, p[j]? = some o := ⟨_, List.getElem?_eq_getElem (by rw [HPL.out]; exact hjlt)⟩
                  have hpw := HPV.out.keep (W' := wr) (fun b hb => hB.block b (Nat.lt_of_lt_of_le hb HBW.out.size)) (fun _ h => h)
                  obtain ⟨pb, poff, rfl, _, hc⟩ := hpw.at (by omega)
                  obtain ⟨c0, c1⟩ := hc j o ho
                  have hst := goodK_take ho
                  obtain ⟨sz, hsz⟩ : ∃ sz, o.key.size = sz := ⟨_, rfl⟩
                  have HJ1 : Hid (j + 1 ≤ pl) := Lib.hid hjlt
                  have HB := Lib.hid hB
                  have HBW2 := Lib.hid hBW0
                  have hbad : ¬ okAtK p j → Hid (b = false) := fun hno => Lib.hid (HBD.out fun h => hno (hst.1 (goodK_sub h (j + 1))).2)
                  have hgo : okAtK p j → Hid (goodK (p.take (j + 1))) := fun h => Lib.hid (hst.2 ⟨hK, h⟩)
                  by_cases h32 : 32 < sz
                  · have h32I : (32 : Int) < (sz : Int) := by omega
                    have HBAD := hbad fun h => by have := (h o ho).1; omega
                    clear hK hB hc ho hBW0 hBR0 hpw hst HO hbad hgo c1
                    go_wp2_with fail
                    go_quiet (fail)
                    go_wp2_with fail
                    go_ret
                    exact ⟨by rw [HBAD.out]; rfl, below_drewN' HBW2.out nq⟩
                  · have h32I : ¬ (32 : Int) < (sz : Int) := by omega
                    have h32d : decide ((32 : Int) < (sz : Int)) = false := decide_eq_false h32I
                    have h32n : decide (32 < sz) = false := decide_eq_false h32
                    by_cases hj0 : j = 0
                    · subst hj0
                      rw [Nat.zero_mul, Nat.add_zero] at c0 c1
                      have HGK := hgo fun q' hq' => ⟨by obtain rfl : o = q' := Option.some.inj (ho.symm.trans hq'); omega, fun j' o' hj' => by omega⟩
                      clear hK hB hc ho hBW0 hBR0 hpw hst HO hbad hgo c1
                      go_wp2_with fail
                      go_quiet (fail)
                      go_wp2_with fail
                      go_roundw
                      case rel => exact ⟨1, by go_num, HJ1.out, Lib.hid ⟨HGK.out, below_drewN' HB.out nq⟩⟩
                      case measure => have h := HJ1.out; simp [intOf]; omega
                    · obtain ⟨j2, hkj⟩ : ∃ j2, j = j2 + 1 := ⟨j - 1, by omega⟩
                      obtain ⟨o2, ho2⟩ : ∃ o2, p[j2]? = some o2 := ⟨_, List.getElem?_eq_getElem (by rw [HPL.out]; omega)⟩
                      obtain ⟨e0, e1⟩ := hc j2 o2 ho2
                      have hsub : (j : Int) - 1 = (j2 : Int) := by omega
                      have hpos : (0 : Int) < (j : Int) := by omega
                      have hjn : j2 < pl := by omega
                      have hpn : decide (0 < j) = true := decide_eq_true (by omega)
                      have hpd : 0 < j := by omega
                      dsimp only [pk] at c0 e0
                      cases hl : Op.bytesLess o2.key.toList o.key.toList with
                      | true =>
                        have HGK := hgo fun q' hq' => ⟨by obtain rfl : o = q' := Option.some.inj (ho.symm.trans hq'); omega, fun j' o' hj' ho' => by
                          obtain rfl : j2 = j' := by omega
                          obtain rfl : o = q' := Option.some.inj (ho.symm.trans hq')
                          obtain rfl : o2 = o' := Option.some.inj (ho2.symm.trans ho')
                          exact hl⟩
                        clear hK hB hc ho hBW0 hBR0 hpw hst HO hbad hgo c1 e1 ho2 hkj
                        go_wp2_with fail
                        go_quiet (fail)
                        go_wp2_with fail
                        go_roundw
                        case rel => exact ⟨j + 1, by go_num, HJ1.out, Lib.hid ⟨HGK.out, below_drewN' HB.out nq⟩⟩
                        case measure => have h := HJ1.out; simp [intOf]; omega
                      | false =>
                        have HBAD := hbad fun h => by have := (h o ho).2 j2 o2 hkj ho2; rw [ltN, hl] at this; cases this
                        clear hK hB hc ho hBW0 hBR0 hpw hst HO hbad hgo c1 e1 ho2 hkj
                        go_wp2_with fail
                        go_quiet (fail)
                        go_wp2_with fail
                        go_ret
                        exact ⟨by rw [HBAD.out]; rfl, below_drewN' HBW2.out nq⟩
                · obtain rfl : j = pl := by omega
                  rw [List.take_of_length_le (by rw [HPL.out]; exact Nat.le_refl _)] at hK
                  have HOK := Lib.hid (HGO.out hK)
                  have HB := Lib.hid hBR0
                  clear hK hB hBW0 hBR0 HO
                  go_wp2_with fail
                  go_roundw
                  case rel => exact ⟨k + 1, by go_num, HK1.out, Lib.hid ⟨HOK.out, HB.out⟩⟩
                  case measure => have h := HK1.out; simp [intOf]; omega
        · obtain rfl : k = n := by omega
          obtain ⟨hok, hBr⟩ := HO.out
          have HF : Hid (b = true ∧ Below w.heap.size w wr) := Lib.hid ⟨HGS.out.2 hok, HBQ.out.trans (hBr.mono HBQ.out.size)⟩
          have k1 : wr.cell? ⟨q + 1, 0, none⟩ = some (.slice B k kap) := by
            have := (hBr.block (q + 1) (lt_of_some HS1.out)).trans HS1.out
            exact (box1 this).1
          clear hok hBr HO
          go_wp2_with fail
          go_ret
          exact ⟨by rw [HF.out.1]; rfl, HF.out.2⟩
    · have g1 : ((n : Int) != (m : Int)) = true := by rw [bne_iff_ne]; omega
      have HBAD : Hid (b = false) := Lib.hid (by
        cases b with
        | false => rfl
        | true =>
          rcases HB.out.1 rfl with h | ⟨h, _⟩
          · rw [HN.out] at h; exact absurd h h0
          · rw [HN.out, HM.out] at h; exact absurd h hnm)
      clear hq HB hnm
      go_enter Try.func13, Try.ntmps13
      go_upto_region 1 with fail
      rw [HW.out, HQ.out]
      go_wp2_with fail
      go_ret
      exact ⟨by rw [HBAD.out]; rfl, HBQ.out⟩

end Go.Proofs.Ytkofipbkfniplaa.Model
