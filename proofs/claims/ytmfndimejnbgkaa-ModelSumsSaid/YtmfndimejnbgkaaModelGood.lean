/-
  Contracts of the model's goodKeys, Good and Empty.
-/
import Derived.Test.YtmfndimejnbgkaaModelJoin
import Derived.Deep.QuietTactic
import Derived.BigQuiet
namespace Go.Proofs.Ytmfndimejnbgkaa.Model
open Go Go.RowKit Go.Lib Go.Sort Go.Shelf Go.Maps Go.Proofs.Ytmfndimejnbgkaa.Law Go.Proofs.Ytmfndimejnbgkaa.Graph Go.Proofs.Ytmfndimejnbgkaa.Fold

def okAtK (l : List Pr) (k : Nat) : Prop := ∀ p, l[k]? = some p → p.key.size ≤ 32 ∧ ∀ j o, k = j + 1 → l[j]? = some o → ltN o.key p.key = true
theorem goodK_take {l : List Pr} {k : Nat} {p : Pr} (hp : l[k]? = some p) : goodK (l.take (k + 1)) ↔ goodK (l.take k) ∧ okAtK l k := by
  rw [Graph.take_snoc hp]
  unfold goodK Rising
  rw [List.pairwise_append]
  constructor
  · rintro ⟨⟨h1, _, h2⟩, h3⟩
    refine ⟨⟨h1, fun q hq => h3 q (List.mem_append_left _ hq)⟩, fun q hq => ?_⟩
    obtain rfl : p = q := Option.some.inj (hp.symm.trans hq)
    refine ⟨h3 p (by simp), fun j o hj ho => h2 o ?_ p (by simp)⟩
    exact List.mem_of_getElem? (i := j) (by rw [List.getElem?_take_of_lt (by omega)]; exact ho)
  · rintro ⟨⟨h1, h2⟩, h3⟩
    obtain ⟨h4, h5⟩ := h3 p hp
    refine ⟨⟨h1, List.pairwise_singleton _ _, fun a ha b hb => ?_⟩, fun q hq => ?_⟩
    · obtain rfl : b = p := List.mem_singleton.1 hb
      obtain ⟨i, hi, hia⟩ := List.getElem_of_mem ha
      rw [List.length_take] at hi
      have hi2 : i < k := by omega
      obtain ⟨j, rfl⟩ : ∃ j, k = j + 1 := ⟨k - 1, by omega⟩
      have hjl : j < l.length := by have := (List.getElem?_eq_some_iff.1 hp).1; omega
      have h6 := h5 j l[j] rfl (List.getElem?_eq_getElem hjl)
      by_cases hij : i = j
      · subst hij
        rw [List.getElem_take] at hia
        rw [← hia]; exact h6
      · rw [List.pairwise_iff_getElem] at h1
        have h7 := h1 i j (by rw [List.length_take]; omega) (by rw [List.length_take]; omega) (by omega)
        rw [hia, List.getElem_take] at h7
        exact ltN_trans h7 h6
    · rcases List.mem_append.1 hq with h | h
      · exact h2 q h
      · rw [List.mem_singleton.1 h]; exact h4
theorem goodK_nil : goodK [] := ⟨List.Pairwise.nil, fun _ h => by cases h⟩
theorem goodK_sub {l : List Pr} (h : goodK l) (k : Nat) : goodK (l.take k) := ⟨h.1.sublist (List.take_sublist _ _), fun p hp => h.2 p (List.mem_of_mem_take hp)⟩
/-- The quiet walk's world. -/
theorem below_drewN' {B : Nat} {w W : World} (h : Below B w W) (n : Nat) : Below B w (W.drewN n) := ⟨h.os, h.tape, h.output, h.size, h.block⟩

set_option maxRecDepth 100000 in
set_option maxHeartbeats 4000000 in
theorem goodKeys_calls (l : List Pr) (hlen : l.length * 24 ≤ 140737488355328) (g : Bool) (hg : g = true ↔ goodK l) (v : Value) (w : World) (h : OldP w.heap.size w v l) :
    Calls Try.prog 37 #[v] w (RetB w g) := by
  obtain ⟨A, cap, rfl, _⟩ := h.form
  obtain ⟨n, hN⟩ : ∃ n, l.length = n := ⟨_, rfl⟩
  rw [hN] at h hlen ⊢
  have HN := Lib.hid hN
  have HI := Lib.hid h
  have HG := Lib.hid hg
  have hnn : n ≤ 5864062014805 := by omega
  clear hN h hg hlen
  go_enter Try.func37, Try.ntmps37
  go_wp2_with fail
  go_loopw [7] (fun i wr => ∃ k : Nat, i = .int .i64 k ∧ k ≤ n ∧ Hid (goodK (l.take k) ∧ Below w.heap.size w wr)) (fun i _ => n - (intOf i).toNat)
  case atStart => exact ⟨0, rfl, Nat.zero_le _, Lib.hid ⟨by rw [List.take_zero]; exact goodK_nil, Below.refl _ _⟩⟩
  case round =>
    obtain ⟨k, rfl, hk, HO⟩ := hrel
    by_cases hlt : k < n
    · obtain ⟨p, hp⟩ : ∃ p, l[k]? = some p := ⟨_, List.getElem?_eq_getElem (by rw [HN.out]; exact hlt)⟩
      obtain ⟨hK, hB⟩ := HO.out
      obtain ⟨b, off, rfl, hb, hc⟩ := (TwoAt.low hB HI.out).at (by omega)
      obtain ⟨c0, c1⟩ := hc k p hp
      obtain ⟨W2, hW2⟩ : ∃ W2, wr.alloc (prObj p) = W2 := ⟨_, rfl⟩
      have hB2 : Below wr.heap.size wr W2 := by rw [← hW2]; exact alloc_low _ _
      have hP2 : W2.heap[wr.heap.size]? = some (prObj p) := by rw [← hW2]; exact heap_alloc_new wr _
      obtain ⟨e0, e1⟩ := boxP hP2
      have hBw : Below w.heap.size w W2 := hB.trans (hB2.mono hB.size)
      have hst := goodK_take hp
      obtain ⟨sz, hsz⟩ : ∃ sz, p.key.size = sz := ⟨_, rfl⟩
      have HK1 : Hid (k + 1 ≤ n) := Lib.hid hlt
      have HW2 := Lib.hid hW2
      have HBW := Lib.hid hBw
      have hbad : ¬ okAtK l k → Hid (g = false) := fun hno => Lib.hid (by
        cases g with
        | false => rfl
        | true => exact absurd (hst.1 (goodK_sub (HG.out.1 rfl) (k + 1))).2 hno)
      have hgo : okAtK l k → Hid (goodK (l.take (k + 1))) := fun h => Lib.hid (hst.2 ⟨hK, h⟩)
      by_cases h32 : 32 < sz
      · have h32I : (32 : Int) < (sz : Int) := by omega
        have HBAD := hbad fun h => by have := (h p hp).1; omega
        clear hK hB hc hp hW2 hB2 hP2 hBw hst HO hb hbad hgo e1
        go_upto_region 4 with fail
        rw [HW2.out]
        go_quiet (fail)
        go_wp2_with fail
        go_ret
        exact ⟨by rw [HBAD.out]; rfl, below_drewN' HBW.out nq⟩
      · have h32I : ¬ (32 : Int) < (sz : Int) := by omega
        have h32d : decide ((32 : Int) < (sz : Int)) = false := decide_eq_false h32I
        have h32n : decide (32 < sz) = false := decide_eq_false h32
        by_cases hk0 : k = 0
        · subst hk0
          rw [Nat.zero_mul, Nat.add_zero] at c0 c1
          have HGO := hgo fun q hq => ⟨by obtain rfl : p = q := Option.some.inj (hp.symm.trans hq); omega, fun j o hj => by omega⟩
          clear hK hB hc hp hW2 hB2 hP2 hBw hst HO hb hbad hgo e1
          go_upto_region 4 with fail
          rw [HW2.out]
          go_quiet (fail)
          go_wp2_with fail
          go_roundw
          case rel => exact ⟨1, by go_num, HK1.out, Lib.hid ⟨HGO.out, below_drewN' HBW.out nq⟩⟩
          case measure => have h := HK1.out; simp [intOf]; omega
        · obtain ⟨j, hkj⟩ : ∃ j, k = j + 1 := ⟨k - 1, by omega⟩
          obtain ⟨o, ho⟩ : ∃ o, l[j]? = some o := ⟨_, List.getElem?_eq_getElem (by rw [HN.out]; omega)⟩
          obtain ⟨q0, q1⟩ := hc j o ho
          have f0 : W2.cell? ⟨b, off + j * 2, none⟩ = some (pk o) := by rw [← hW2]; exact (World.cell?_of_block (Below.heap_alloc _ _ _ (block_lt_cell q0))).trans q0
          have hsub : (k : Int) - 1 = (j : Int) := by omega
          have hpos : (0 : Int) < (k : Int) := by omega
          have hjn : j < n := by omega
          have hpn : decide (0 < k) = true := decide_eq_true (by omega)
          have hpd : 0 < k := by omega
          dsimp only [pk] at f0
          cases hl : Op.bytesLess o.key.toList p.key.toList with
          | true =>
            have HGO := hgo fun q hq => ⟨by obtain rfl : p = q := Option.some.inj (hp.symm.trans hq); omega, fun j' o' hj ho' => by
              obtain rfl : j = j' := by omega
              obtain rfl : p = q := Option.some.inj (hp.symm.trans hq)
              obtain rfl : o = o' := Option.some.inj (ho.symm.trans ho')
              exact hl⟩
            clear hK hB hc hp hW2 hB2 hP2 hBw hst HO hb hbad hgo e1 q0 q1 ho hkj
            go_upto_region 4 with fail
            rw [HW2.out]
            go_quiet (fail)
            go_wp2_with fail
            go_roundw
            case rel => exact ⟨k + 1, by go_num, HK1.out, Lib.hid ⟨HGO.out, below_drewN' HBW.out nq⟩⟩
            case measure => have h := HK1.out; simp [intOf]; omega
          | false =>
            have HBAD := hbad fun h => by have := (h p hp).2 j o hkj ho; rw [ltN, hl] at this; cases this
            clear hK hB hc hp hW2 hB2 hP2 hBw hst HO hb hbad hgo e1 q0 q1 ho hkj
            go_upto_region 4 with fail
            rw [HW2.out]
            go_quiet (fail)
            go_wp2_with fail
            go_ret
            exact ⟨by rw [HBAD.out]; rfl, below_drewN' HBW.out nq⟩
    · obtain rfl : k = n := by omega
      obtain ⟨hK, hB⟩ := HO.out
      rw [List.take_of_length_le (by rw [HN.out]; exact Nat.le_refl _)] at hK
      have HF : Hid (g = true) := Lib.hid (HG.out.2 hK)
      have HB := Lib.hid hB
      clear hK hB HO
      go_wp2_with fail
      go_ret
      exact ⟨by rw [HF.out]; rfl, HB.out⟩

end Go.Proofs.Ytmfndimejnbgkaa.Model
