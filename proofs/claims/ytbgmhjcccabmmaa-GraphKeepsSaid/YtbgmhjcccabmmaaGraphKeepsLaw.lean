/-
  The walk of the law GraphKeeps.
-/
import Derived.Test.YtbgmhjcccabmmaaGraphKnown
import Derived.Test.YtbgmhjcccabmmaaGraphCopy
import Derived.Test.YtbgmhjcccabmmaaGraphRefReach
import Derived.Test.YtbgmhjcccabmmaaGraphReaches
import Derived.Deep.RegionHeld3
namespace Go.Proofs.Ytbgmhjcccabmmaa.Graph
open Go Go.RowKit Go.Sort Go.Proofs.Ytbgmhjcccabmmaa.Law

/-- The rows from i on are as they were made, whatever stands in them; only what was made from c1 to c2 has turned. -/
structure Rest (Wc W2 W : World) (c1 c2 R n i : Nat) (B : Nat → Nat) : Prop where
  low : Below c1 Wc W
  mid : ∀ k, c2 ≤ k → k < W2.heap.size → W.heap[k]? = W2.heap[k]?
  sz : W2.heap.size ≤ W.heap.size
  far : c1 ≤ R ∧ R < c2 ∧ ∀ j, i ≤ j → j < n → c1 ≤ B j ∧ B j < c2 ∧ B j ≠ R
  out : ∀ j, i ≤ j → j < n → W.cell? ⟨R, j, none⟩ = some (.slice (some ⟨B j, 0, none⟩) n n) ∧ W.frozen? ⟨R, j, none⟩ = false
  rows : ∀ j, i ≤ j → j < n → ∃ F, OwnRow Value.bool 4 W c1 (.slice (some ⟨B j, 0, none⟩) n n) (inL n F)
  apart : ∀ j k, i ≤ j → j < n → i ≤ k → k < n → B j = B k → j = k

/-- A store into the i-th row. -/
theorem Rest.flip {Wc W2 W : World} {c1 c2 R n i : Nat} {B : Nat → Nat} (h : Rest Wc W2 W c1 c2 R n i B) (hi : i < n) (k : Nat) (v : Bool) : Rest Wc W2 (W.setCell ⟨B i, k, none⟩ (.bool v)) c1 c2 R n i B := by
  obtain ⟨f1, f2, f3⟩ := h.far
  obtain ⟨b1, b2, b3⟩ := f3 i (Nat.le_refl _) hi
  have hne : ∀ j, j ≠ B i → (W.setCell ⟨B i, k, none⟩ (.bool v)).heap[j]? = W.heap[j]? := fun j hj => Below.heap_setCell _ _ _ _ hj
  refine ⟨h.low.setCell (p := ⟨B i, k, none⟩) b1 _, fun j hj hj2 => (hne j (by omega)).trans (h.mid j hj hj2), by simp only [World.setCell, Array.size_modify]; exact h.sz, h.far, fun j hj hj2 => ?_, fun j hj hj2 => ?_, h.apart⟩
  · have e := hne R (Ne.symm b3)
    simp only [World.cell?, World.frozen?, e]
    exact h.out j hj hj2
  · obtain ⟨F, hF⟩ := h.rows j hj hj2
    by_cases hji : j = i
    · subst hji
      refine ⟨fun b => if b = k then v else F b, ?_⟩
      have := (hF.store k v).1
      have e : inL n (fun b => if b = k then v else F b) = (inL n F).set k v := by
        apply List.ext_getElem?
        intro m
        rw [List.getElem?_set]
        by_cases hm : m < n
        · rw [inL_get hm]
          by_cases hkm : k = m
          · subst hkm
            have hkl : k < (inL n F).length := by rw [inL_length]; exact hm
            simp [hkl]
          · rw [if_neg hkm, inL_get hm, if_neg (Ne.symm hkm)]
        · rw [List.getElem?_eq_none (by rw [inL_length]; omega), List.getElem?_eq_none (by rw [inL_length]; omega)]
          by_cases hkm : k = m
          · rw [if_pos hkm, if_neg (by rw [inL_length]; omega)]
          · rw [if_neg hkm]
      rw [e]
      exact this
    · exact ⟨F, hF.keep fun g hg => by
        obtain rfl : B j = g := by simpa [Value.ownBlock] using hg
        exact hne _ fun e => hji (h.apart j i hj hj2 (Nat.le_refl _) hi e)⟩
/-- The i-th row is taken away, and something stands in its place. -/
theorem Rest.next {Wc W2 W W' : World} {c1 c2 R n i : Nat} {B : Nat → Nat} (h : Rest Wc W2 W c1 c2 R n i B) (hi : i < n) (hg : W.grownBy W' (some (B i))) (hc2 : c2 ≤ W2.heap.size) (v : Value) : Rest Wc W2 (W'.setCell ⟨R, i, none⟩ v) c1 c2 R n (i + 1) B := by
  obtain ⟨f1, f2, f3⟩ := h.far
  obtain ⟨b1, b2, b3⟩ := f3 i (Nat.le_refl _) hi
  have hsz := h.sz
  have hne : ∀ j, j < W.heap.size → j ≠ B i → j ≠ R → (W'.setCell ⟨R, i, none⟩ v).heap[j]? = W.heap[j]? := fun j hl hj hj2 => (Below.heap_setCell _ _ _ _ hj2).trans (hg.block j hl (by simp only [ne_eq, Option.some.injEq]; exact hj))
  have hlow : Below c1 Wc W' := h.low.grown hg (by omega) fun k e => by cases e; exact b1
  refine ⟨hlow.setCell (p := ⟨R, i, none⟩) f1 _, fun j hj hj2 => (hne j (by omega) (by omega) (by omega)).trans (h.mid j hj hj2), by simp only [World.setCell, Array.size_modify]; exact Nat.le_trans h.sz hg.size, ⟨f1, f2, fun j hj hj2 => f3 j (by omega) hj2⟩, fun j hj hj2 => ?_, fun j hj hj2 => ?_, fun j k hj hj2 hk hk2 => h.apart j k (by omega) hj2 (by omega) hk2⟩
  · have e : W'.heap[R]? = W.heap[R]? := hg.block R (by omega) (by simp only [ne_eq, Option.some.injEq]; exact Ne.symm b3)
    obtain ⟨q1, q2⟩ := h.out j (by omega) hj2
    refine ⟨?_, ?_⟩
    · have hne2 : (⟨R, i, none⟩ : Addr) ≠ ⟨R, j, none⟩ := fun e' => by simp only [Addr.mk.injEq, and_true, true_and] at e'; omega
      rw [World.cell?_setCell_other (h := hne2)]
      simp only [World.cell?, e]
      exact q1
    · have : (W'.setCell ⟨R, i, none⟩ v).frozen? ⟨R, j, none⟩ = W'.frozen? ⟨R, j, none⟩ := by simp
      rw [this]
      simp only [World.frozen?, e]
      exact q2
  · obtain ⟨F, hF⟩ := h.rows j (by omega) hj2
    exact ⟨F, hF.keep fun g hg' => by
      obtain rfl : B j = g := by simpa [Value.ownBlock] using hg'
      have hj3 := f3 j (by omega) hj2
      exact hne _ (by omega) (fun e => by have := h.apart j i (by omega) hj2 (Nat.le_refl _) hi e; omega) hj3.2.2⟩

theorem rest_start {Wa W1 W2 : World} {base base2 R n : Nat} {B : Nat → Nat} {F : Nat → Nat → Bool} (h : Ways W1 base R n 0 B F) (hb : Wa.heap.size = base) (hs : base2 = W1.heap.size) (h1 : Below base Wa W1) (h2 : Below W1.heap.size W1 W2) : Rest Wa W2 W2 base base2 R n 0 B := by
  have hW := h.below h2
  subst hs
  refine ⟨h1.trans (h2.mono (by have := h1.size; omega)), fun _ _ _ => rfl, Nat.le_refl _, ⟨h.lt.1, h.lt.2, fun j hj hj2 => ⟨(h.ltB hj hj2).1, (h.ltB hj hj2).2, h.far j hj hj2⟩⟩, fun j hj hj2 => ⟨hW.cellY hj hj2, (hW.cellO hj2).2⟩, fun j hj hj2 => ⟨F j, hW.rows j hj hj2⟩, fun j k hj hj2 hk hk2 e => h.apart j k hj hj2 hk hk2 e⟩

theorem lit2 {W : World} {b : Nat} (h2 : W.heap[b]? = some (.cells #[.bool true, .bool true] 4)) : RowAt Value.bool (fun _ => True) W (.slice (some ⟨b, 0, none⟩) 2 2) [true, true] := by
  refine ⟨_, 2, rfl, Nat.le_refl _, (fun h => by cases h), fun _ => ⟨b, 0, rfl, trivial, fun j x hx => ?_⟩⟩
  have hj : j < 2 := (List.getElem?_eq_some_iff.1 hx).1
  rcases (by omega : j = 0 ∨ j = 1) with rfl | rfl
  · obtain rfl : true = x := by simpa using hx
    simp [World.cell?, h2]
  · obtain rfl : true = x := by simpa using hx
    simp [World.cell?, h2]

theorem rest_drew {Wc W2 W : World} {c1 c2 R n i : Nat} {B : Nat → Nat} (h : Rest Wc W2 W c1 c2 R n i B) : Rest Wc W2 W.drew c1 c2 R n i B :=
  ⟨h.low.drew, h.mid, h.sz, h.far, h.out, fun j h1 h2 => (h.rows j h1 h2).imp fun _ hF => hF.keep fun _ _ => rfl, h.apart⟩

theorem info_boolK : (Try.prog.info? 4).map (fun i => (i.zero, i.size, i.bytes)) = some (some (.bool false), 1, 1) := by kernel_rfl

set_option maxRecDepth 100000 in
set_option maxHeartbeats 16000000 in
theorem graphKeeps_law (l : List Opr) (hl : l.length * 72 ≤ 140737488351232) (hin : ∀ x ∈ l, x.ins.length * 8 ≤ 140737488351232) (v : Value) (w : World) (h : OldO w.heap.size w v l) :
    Calls Try.prog 6 #[.agg #[v]] w (RetT true w) := by
  obtain ⟨A, cap, rfl, _⟩ := h.form
  obtain ⟨n, hn⟩ : ∃ n, l.length = n := ⟨_, rfl⟩
  obtain ⟨w0, hw0⟩ : ∃ w0, w.alloc (.cells #[.slice A n cap] 24) = w0 := ⟨_, rfl⟩
  have hB0 : Below w.heap.size w w0 := by rw [← hw0]; exact alloc_low _ _
  have hb0 : w0.heap[w.heap.size]? = some (.cells #[.slice A n cap] 24) := by rw [← hw0]; exact heap_alloc_new w _
  have CP := fun W (hB : Below w0.heap.size w0 W) => copyGraph_calls l hl hin _ W ((h.on hB0).on hB)
  have CC := fun W (hB : Below w0.heap.size w0 W) => check_calls l hl hin _ W ((h.on hB0).on hB)
  have CR := fun W (hB : Below w0.heap.size w0 W) => reaches_calls l hl hin _ W ((h.on hB0).on hB)
  have CS := fun (u : Value) W (hB : Below w0.heap.size w0 W) (hu : OldO W.heap.size W u l) => sameGraph_calls l l hl hin _ u true (by simp) W ((h.on hB0).on hB) hu
  have CH := fun (a b : Nat) (hg : goodG l) (hb : b < l.length) W (hB : Below w0.heap.size w0 W) => refReach_calls l hg _ a b b (Nat.le_refl _) hb W ((h.on hB0).on hB)
  rw [hn] at CP CC CR CS CH ⊢
  have HCP := Lib.hid CP
  have HCC := Lib.hid CC
  have HCR := Lib.hid CR
  have HCS := Lib.hid CS
  have HCH := Lib.hid CH
  have HL := Lib.hid hn
  have HW := Lib.hid hw0
  have HB0 := Lib.hid hB0
  have HBX := Lib.hid hb0
  clear CP CC CR CS CH h hn hin hl hw0 hB0 hb0
  go_enter Try.func6, Try.ntmps6
  go_wp2_with fail
  rw [HW.out]
  refine (known_calls _).mono ?_
  rintro e w1 ⟨rfl, B1⟩
  have HB1 := Lib.hid B1
  obtain ⟨d0, _⟩ := box1 ((B1.block w.heap.size (lt_of_some HBX.out)).trans HBX.out)
  clear B1
  go_wp2_with fail
  refine (HCP.out w1 HB1.out).mono ?_
  rintro e w2 ⟨Ac, nc, cc, rfl, hcp, B2⟩
  -- the copy in its box
  obtain ⟨w3, hw3⟩ : ∃ w3, w2.alloc (.cells #[.slice Ac nc cc] 24) = w3 := ⟨_, rfl⟩
  have h3 : w3.heap[w2.heap.size]? = some (.cells #[.slice Ac nc cc] 24) := by rw [← hw3]; exact heap_alloc_new w2 _
  have hB23 : Below w2.heap.size w2 w3 := by rw [← hw3]; exact alloc_low _ _
  obtain ⟨bc, hbc⟩ : ∃ bc, w2.heap.size = bc := ⟨_, rfl⟩
  have hB13 : Below w1.heap.size w1 w3 := B2.trans (hB23.mono B2.size)
  have hB03 : Below w0.heap.size w0 w3 := HB1.out.trans (hB13.mono HB1.out.size)
  have hc3 : OldO w3.heap.size w3 (.slice Ac nc cc) l := hcp.keep (fun j hj => hB23.block j hj.2) (fun j hj => by have := hB23.size; have := hj.2; omega)
  have hg3 := (hB03.block w.heap.size (lt_of_some HBX.out)).trans HBX.out
  obtain ⟨d1, _⟩ := box1 ((B2.block w.heap.size (by have := HB1.out.size; have := lt_of_some HBX.out; omega)).trans ((HB1.out.block w.heap.size (lt_of_some HBX.out)).trans HBX.out))
  have hlt2 : w.heap.size < w2.heap.size := by have := B2.size; have := HB1.out.size; have := lt_of_some HBX.out; omega
  rw [hbc] at h3
  have HW3 := Lib.hid hw3
  have HBC := Lib.hid hbc
  have H3 := Lib.hid h3
  have HC3 := Lib.hid hc3
  have HB03 := Lib.hid hB03
  have HG3 := Lib.hid hg3
  clear hw3 hbc h3 hc3 hB03 hB13 hB23 hg3 hcp B2
  go_wp2_with fail
  rw [HW3.out, HBC.out]
  refine (HCC.out w3 HB03.out).mono ?_
  rintro e w4 ⟨ic, ec, rfl, hchk, B4⟩
  have hB4 := HB03.out.trans (B4.mono HB03.out.size)
  obtain ⟨d2, _⟩ := box1 ((B4.block w.heap.size (lt_of_some HG3.out)).trans HG3.out)
  have HB4 := Lib.hid hB4
  have HB34 := Lib.hid B4
  clear d0 d1 hlt2 B4 hB4 hchk
  go_wp2_with fail
  refine (HCR.out w4 HB4.out).mono ?_
  rintro e w5 hr5
  rcases hr5 with ⟨hbad, rfl, B5⟩ | ⟨hgood, R, B, rfl, hWa, B5⟩
  · -- not right: nothing is told
    have hB5 := HB4.out.trans (B5.mono HB4.out.size)
    have hB35 := HB34.out.trans (B5.mono HB34.out.size)
    obtain ⟨d3, _⟩ := box1 ((hB35.block w.heap.size (lt_of_some HG3.out)).trans HG3.out)
    have HB5 := Lib.hid hB5
    have HB35 := Lib.hid hB35
    clear hB5 hB35 B5
    go_wp2_with fail
    refine (HCR.out w5 HB5.out).mono ?_
    rintro e w6 hr6
    rcases hr6 with ⟨_, rfl, B6⟩ | ⟨hgood, _⟩
    · have hB36 := HB35.out.trans (B6.mono HB35.out.size)
      have hB6 := HB5.out.trans (B6.mono HB5.out.size)
      obtain ⟨d4, _⟩ := box1 ((hB36.block w.heap.size (lt_of_some HG3.out)).trans HG3.out)
      obtain ⟨d5, _⟩ := box1 ((hB36.block bc (lt_of_some H3.out)).trans H3.out)
      have hc6 := HC3.out.on hB36
      have HC6 := Lib.hid hc6
      have HB6 := Lib.hid hB6
      clear hB36 hB6 hc6 B6 d3 d2
      go_wp2_with fail
      go_loop [6] (fun i => i = .int .i64 0) (fun _ => 0)
      case atStart => rfl
      case round =>
        obtain rfl := hrel
        go_wp2_with fail
        go_loop [8] (fun i => i = .int .i64 0) (fun _ => 0)
        case atStart => rfl
        case round =>
          obtain rfl := hrel
          go_wp2_with fail
          refine (HCS.out _ w6 HB6.out HC6.out).mono ?_
          rintro e w7 ⟨rfl, B7⟩
          have HB7 := Lib.hid (HB0.out.trans ((HB6.out.trans (B7.mono HB6.out.size)).mono HB0.out.size))
          clear B7
          go_wp2_with fail
          go_ret
          exact ⟨rfl, HB7.out⟩
    · exact absurd hgood hbad
  · rw [HL.out] at hWa ⊢
    have hB5 := HB4.out.trans (B5.mono HB4.out.size)
    have hB35 := HB34.out.trans (B5.mono HB34.out.size)
    obtain ⟨d3, _⟩ := box1 ((hB35.block w.heap.size (lt_of_some HG3.out)).trans HG3.out)
    have HB5 := Lib.hid hB5
    have HB35 := Lib.hid hB35
    have HB45 := Lib.hid B5
    have HWa := Lib.hid hWa
    have HGD := Lib.hid hgood
    clear hB5 hB35 B5 hWa hgood
    go_wp2_with fail
    refine (HCR.out w5 HB5.out).mono ?_
    rintro e w6 hr6
    rcases hr6 with ⟨hbad, _⟩ | ⟨_, R2, B2, rfl, hWb, B6⟩
    · exact absurd HGD.out hbad
    rw [HL.out] at hWb ⊢
    have hn1 : 1 ≤ n := by have := HGD.out.1; rw [HL.out] at this; exact this
    have hn16 : n ≤ 16 := by have := HGD.out.2.1; rw [HL.out] at this; exact this
    have hB36 := HB35.out.trans (B6.mono HB35.out.size)
    have hB6 := HB5.out.trans (B6.mono HB5.out.size)
    have hrest := rest_start HWa.out rfl rfl HB45.out B6
    have hs6 := B6.size
    have hs5 := HB45.out.size
    obtain ⟨c1, hc1⟩ : ∃ c1, w4.heap.size = c1 := ⟨_, rfl⟩
    obtain ⟨c2, hc2⟩ : ∃ c2, w5.heap.size = c2 := ⟨_, rfl⟩
    rw [hc1, hc2] at hrest
    rw [hc2] at hWb hs6
    rw [hc1, hc2] at hs5
    have hbc1 : bc < c1 := by rw [← hc1]; exact Nat.lt_of_lt_of_le (lt_of_some H3.out) HB34.out.size
    have hwc1 : w.heap.size < c1 := by rw [← hc1]; exact Nat.lt_of_lt_of_le (lt_of_some HG3.out) HB34.out.size
    have HRS := Lib.hid hrest
    have HWb := Lib.hid hWb
    have HC1 := Lib.hid hc1
    have HC2 := Lib.hid hc2
    clear hrest hWb B6 hB36 hB6 d3 d2 hc1 hc2
    obtain ⟨i0, hi0, hz0, hz1, hz2⟩ := info_parts info_boolK
    go_wp2_with fail
    go_loopw [6] (fun s wr => ∃ i : Nat, s = .int .i64 i ∧ i ≤ n ∧ Hid (Rest w4 w6 wr c1 c2 R n i B)) (fun s _ => n - (intOf s).toNat)
    case atStart => exact ⟨0, rfl, Nat.zero_le _, HRS⟩
    case round =>
      obtain ⟨i, rfl, hi, HR⟩ := hrel
      by_cases hin : i < n
      · have hiI : (i : Int) < (n : Int) := by omega
        go_wp2_with fail
        obtain ⟨wo, rfl⟩ : ∃ x, x = wr := ⟨_, rfl⟩
        obtain ⟨bi, hbi⟩ : ∃ bi, B i = bi := ⟨_, rfl⟩
        have HBI := Lib.hid hbi
        clear hbi
        go_loopw [7] (fun s wr => ∃ k : Nat, s = .int .i64 k ∧ k ≤ n ∧ Hid (Rest w4 w6 wr c1 c2 R n i B)) (fun s _ => n - (intOf s).toNat)
        case atStart => exact ⟨0, rfl, Nat.zero_le _, HR⟩
        case round =>
          obtain ⟨k, rfl, hk, HR⟩ := hrel
          obtain ⟨g0, g1⟩ := HR.out.out i (Nat.le_refl _) hin
          have hfar := HR.out.far.2.2 i (Nat.le_refl _) hin
          have hsw := HR.out.sz
          rw [HBI.out] at g0 hfar
          by_cases hkn : k < n
          · have hkI : (k : Int) < (n : Int) := by omega
            obtain ⟨F, hF⟩ := HR.out.rows i (Nat.le_refl _) hin
            rw [HBI.out] at hF
            obtain ⟨q0, q1⟩ := hF.cell (inL_get hkn)
            have hlt := (hF.own rfl).2
            obtain ⟨c, hc⟩ : ∃ c, F k = c := ⟨_, rfl⟩
            rw [hc] at q0
            have hnx := HR.out.flip hin k (!c)
            rw [HBI.out] at hnx
            have HNX := Lib.hid hnx
            clear hF hc hnx
            go_wp2_with fail
            refine wp_region_noPanic ?_
            refine wp_region_held_tail (C := fun w' => w'.cell? ⟨R, i, none⟩ = some (.slice (some ⟨bi, 0, none⟩) n n) ∧ w'.cell? ⟨bi, k, none⟩ = some (.bool c)) [0, 1, 2, 3, 4, 5, 6, 7, 8, 9, 10, 11, 12] [13, 14] 14 (by kernel_rfl) (by kernel_rfl) (fun _ _ _ _ _ h => h) ⟨g0, q0⟩ ?_
            iterate 13
              refine heldI_step (v := ?_) rfl (by rfl) (fun w' hw' => ?_) ?_
              rotate_left
              · obtain ⟨p0, p1⟩ := hw'
                go_simp
                all_goals with_reducible rfl
              simp only [Act.put, List.getElem_toArray, List.getElem_cons_succ, List.getElem_cons_zero, List.setIfInBounds_toArray, List.set_cons_succ, List.set_cons_zero]
            refine heldI_nil ?_
            refine seqI_step rfl ?_
            simp only [List.getElem_toArray, List.getElem_cons_succ, List.getElem_cons_zero]
            go_wp2_with fail
            refine ⟨⟨g0, q0⟩, ?_⟩
            refine seqI_last rfl ?_
            simp only [List.getElem_toArray, List.getElem_cons_succ, List.getElem_cons_zero]
            go_wp2_with fail
            refine NoPanic.normal ?_
            go_wp2_with fail
            go_roundw
            case rel => exact ⟨k + 1, by go_num, by omega, Lib.hid (rest_drew HNX.out)⟩
            case measure => simp [intOf]; omega
          · obtain rfl : k = n := by omega
            obtain ⟨F, hF⟩ := HR.out.rows i (Nat.le_refl _) hin
            rw [HBI.out] at hF
            have hown := hF.below (W' := wr.alloc (.cells #[.bool true, .bool true] 4)) (alloc_low _ _)
            have hlit := lit2 (heap_alloc_new wr (.cells #[.bool true, .bool true] 4))
            obtain ⟨v', W', hrun, hown', hgr, _⟩ := run_append_row (P := Try.prog) (wr.alloc (.cells #[.bool true, .bool true] 4)) (t := 42) 42 (fun _ => rfl) Try.underlying42 hi0 hz0 hz1 hz2 rfl hown hlit (by rw [inL_length]; unfold maxLen; simp; omega) (by rw [inL_length]; simp; omega) (by simp; omega)
            obtain ⟨A2, cp2, hv', _⟩ := hown'.form
            obtain ⟨m2, hm2⟩ : ∃ m2, (inL k F ++ [true, true]).length = m2 := ⟨_, rfl⟩
            rw [hm2] at hv'
            subst hv'
            have hgw : wr.grownBy W' (some bi) := (World.grownBy_alloc wr _ _).trans hgr
            have hfr := HR.out.far
            have hnx := HR.out.next hin (by rw [HBI.out]; exact hgw) (by omega) (.slice A2 m2 cp2)
            have hRW : R < wr.heap.size := by omega
            have e := hgw.block R hRW (by simp only [ne_eq, Option.some.injEq]; omega)
            have x0 : W'.cell? ⟨R, i, none⟩ = some (.slice (some ⟨bi, 0, none⟩) k k) := by simp only [World.cell?, e]; exact g0
            have x1 : W'.frozen? ⟨R, i, none⟩ = false := by simp only [World.frozen?, e]; exact g1
            have hRW' : R < W'.heap.size := Nat.lt_of_lt_of_le hRW hgw.size
            have HRUN := Lib.hid hrun
            have HNX := Lib.hid hnx
            clear hF hown hlit hrun hown' hgr hm2 hgw hfr hnx e HR
            go_wp2_with (at_builtin; refine wpList_append_ran rfl _ _ _ rfl rfl rfl HRUN.out ?_)
            go_roundw
            case rel => exact ⟨i + 1, by go_num, by omega, HNX⟩
            case measure => simp [intOf]; omega
      · obtain rfl : i = n := by omega
        obtain ⟨w7, rfl⟩ : ∃ x, x = wr := ⟨_, rfl⟩
        have hlow := HR.out.low
        have hsz7 := HR.out.sz
        have hW7 : Ways w7 c2 R2 i 0 B2 (rB l) := HWb.out.keep (HR.out.mid _ HWb.out.lt.1 HWb.out.lt.2) fun j h1 h2 => HR.out.mid _ (HWb.out.ltB h1 h2).1 (HWb.out.ltB h1 h2).2
        have hw0c : w0.heap.size ≤ c1 := by have := HB4.out.size; rw [HC1.out] at this; exact this
        have hB07 : Below w0.heap.size w0 w7 := HB4.out.trans (hlow.mono hw0c)
        have hg7 : w7.heap[w.heap.size]? = some (.cells #[.slice A i cap] 24) := (hlow.block w.heap.size hwc1).trans ((HB34.out.block w.heap.size (lt_of_some HG3.out)).trans HG3.out)
        have hbb7 : w7.heap[bc]? = some (.cells #[.slice Ac nc cc] 24) := (hlow.block bc hbc1).trans ((HB34.out.block bc (lt_of_some H3.out)).trans H3.out)
        have hc7 : OldO w7.heap.size w7 (.slice Ac nc cc) l := HC3.out.keep (fun j hj => (hlow.block j (by have := HB34.out.size; have := HC1.out; omega)).trans (HB34.out.block j hj)) (fun j hj => by have := HB34.out.size; have := HC1.out; omega)
        have HW7 := Lib.hid hW7
        have HB07 := Lib.hid hB07
        have HG7 := Lib.hid hg7
        have HBB7 := Lib.hid hbb7
        have HC7 := Lib.hid hc7
        clear hlow hW7 hB07 hg7 hbb7 hc7 HR
        go_wp2_with fail
        go_loopw [8] (fun s wr => ∃ j : Nat, s = .int .i64 j ∧ j ≤ i ∧ Hid (Below w7.heap.size w7 wr)) (fun s _ => i - (intOf s).toNat)
        case atStart => exact ⟨0, rfl, Nat.zero_le _, Lib.hid (Below.refl _ _)⟩
        case round =>
          obtain ⟨j, rfl, hj, HR⟩ := hrel
          by_cases hji : j < i
          · have hjI : (j : Int) < (i : Int) := by omega
            go_wp2_with fail
            obtain ⟨wo, rfl⟩ : ∃ x, x = wr := ⟨_, rfl⟩
            go_loopw [9] (fun s wr => ∃ k : Nat, s = .int .i64 k ∧ k ≤ i ∧ Hid (Below w7.heap.size w7 wr)) (fun s _ => i - (intOf s).toNat)
            case atStart => exact ⟨0, rfl, Nat.zero_le _, HR⟩
            case round =>
              obtain ⟨k, rfl, hk, HR⟩ := hrel
              have hWr := HW7.out.below HR.out
              have g0 := hWr.cellY (i := j) (Nat.zero_le _) hji
              by_cases hki : k < i
              · have hkI : (k : Int) < (i : Int) := by omega
                have g1 := (hWr.cellI (i := j) (j := k) (Nat.zero_le _) hji hki).1
                obtain ⟨g2, _⟩ := box1 ((HR.out.block w.heap.size (lt_of_some HG7.out)).trans HG7.out)
                obtain ⟨bj, hbj⟩ : ∃ bj, B2 j = bj := ⟨_, rfl⟩
                rw [hbj] at g0 g1
                have hB0r := HB07.out.trans (HR.out.mono HB07.out.size)
                have CI := fun d os => Calls.regrown_of (d := d) (os := os) (HCH.out j k HGD.out hki (grow (redrawn wr d) os) (hB0r.trans ((below_regrown wr d os).mono hB0r.size)))
                obtain ⟨r, hr⟩ : ∃ r, rB l j k = r := ⟨_, rfl⟩
                rw [hr] at g1 CI
                have hrr : (r != r) = false := by cases r <;> rfl
                have HCI := Lib.hid CI
                have q0 := fun d os => cell_regrown g0 d os
                have q1 := fun d os => cell_regrown g1 d os
                have q2 := fun d os => cell_regrown g2 d os
                clear CI hr hbj hB0r hWr
                go_wp2_with fail
                refine wp_region_quiet_below (by kernel_rfl) (by kernel_rfl) ?_
                repeat (go_big_quiet_step (exact HCI.out _ _))
                refine wpQuiet_nil ?_
                intro w' hw'
                obtain ⟨⟨d, os⟩, rfl⟩ := hw'
                have HR3 := Lib.hid (HR.out.trans ((below_regrown wr d os).mono HR.out.size))
                clear HCI q0 q1 q2 g0 g1 g2
                generalize grow (redrawn wr d) os = wn at HR3 ⊢
                go_wp2_with fail
                go_roundw
                case rel => exact ⟨k + 1, by go_num, by omega, HR3⟩
                case measure => simp [intOf]; omega
              · obtain rfl : k = i := by omega
                clear hWr
                go_wp2_with fail
                go_roundw
                case rel => exact ⟨j + 1, by go_num, by omega, HR⟩
                case measure => simp [intOf]; omega
          · obtain rfl : j = i := by omega
            obtain ⟨g2, _⟩ := box1 ((HR.out.block w.heap.size (lt_of_some HG7.out)).trans HG7.out)
            obtain ⟨g3, _⟩ := box1 ((HR.out.block bc (lt_of_some HBB7.out)).trans HBB7.out)
            have hB0r := HB07.out.trans (HR.out.mono HB07.out.size)
            have HB0R := Lib.hid hB0r
            have hcr := HC7.out.on HR.out
            have HCR' := Lib.hid hcr
            clear hB0r hcr
            go_wp2_with fail
            refine (HCS.out _ wr HB0R.out HCR'.out).mono ?_
            rintro e w8 ⟨rfl, B8⟩
            have HB8 := Lib.hid (HB0.out.trans ((HB0R.out.trans (B8.mono HB0R.out.size)).mono HB0.out.size))
            clear B8
            go_wp2_with fail
            go_ret
            exact ⟨rfl, HB8.out⟩

end Go.Proofs.Ytbgmhjcccabmmaa.Graph
