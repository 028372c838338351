/-
  The walk of the law GraphWays.
-/
import Derived.Test.YtbgmhjcccabmmaaGraphMarks
import Derived.Test.YtbgmhjcccabmmaaGraphRefUses
import Derived.Lib.QuietBelowIn
namespace Go.Proofs.Ytbgmhjcccabmmaa.Graph
open Go Go.RowKit Go.Shelf Go.Lib Go.Sort Go.Proofs.Ytbgmhjcccabmmaa.Law

attribute [local go_sem] Oper.semAt_some

/-- A box of cells stays where no cells are turned. -/
theorem box_stays {A' B' : World} {k D : Nat} {cs : Array Value} {t : TypeId} {row : Option Nat} (h : A'.heap[k]? = some (.cells cs t)) (hg : A'.grownBy B' row) (hr : ∀ r, row = some r → D ≤ r ∧ ∃ o : Obj, A'.heap[r]? = some o ∧ o.isCells = false) : B'.heap[k]? = some (.cells cs t) :=
  (hg.block k (lt_of_some h) fun e => by
    obtain ⟨_, o, ho, hc⟩ := hr _ e.symm
    rw [h] at ho
    cases ho
    cases hc).trans h

theorem marks_one {W : World} {D lo : Nat} (h : lo ≤ D) (hD : W.heap[D]? = some (.deferred (some []))) : Marks [D] lo W := ⟨by simp, fun r hr => by
  have e : r = D := by simpa using hr
  rw [e]
  exact ⟨h, hD⟩⟩

theorem wrapU_nonneg (z : Int) : 0 ≤ IntKind.u64.wrap z := by
  rw [show IntKind.u64.wrap z = z % 18446744073709551616 from rfl]
  omega
/-- The number of uses that are asked for at most. -/
theorem most4 (z : Int) : ∃ m : Nat, m < 4 ∧ wrap64 ((IntKind.u64.wrap z).tmod 4) = (m : Int) := by
  have h2 : 0 ≤ IntKind.u64.wrap z := wrapU_nonneg z
  have h3 : (IntKind.u64.wrap z).tmod 4 = IntKind.u64.wrap z % 4 := Int.tmod_eq_emod_of_nonneg h2
  refine ⟨(IntKind.u64.wrap z % 4).toNat, by omega, ?_⟩
  rw [h3, IntWalk.wrap64_in _ (by omega)]
  omega

set_option maxRecDepth 100000 in
set_option maxHeartbeats 64000000 in
theorem graphWays_in (q : Nat) (hq : 12 ≤ q) (l : List Opr) (hl : l.length * 72 ≤ 140737488351232) (hin : ∀ x ∈ l, x.ins.length * 8 ≤ 140737488351232) (hsum : insN l ≤ 1048576) (fr z : Int) (v : Value) (w : World) (h : OldO w.heap.size w v l) :
    CallsIn Fence.wide q Try.prog 4 #[.agg #[v], .int .i64 fr, .int .i64 z] w (RetT true w) := by
  have h1 : 1 ≤ q := by omega
  obtain ⟨A, cap, rfl, _⟩ := h.form
  obtain ⟨n, hn⟩ : ∃ n, l.length = n := ⟨_, rfl⟩
  obtain ⟨m, hm, hmz⟩ := most4 z
  obtain ⟨w0, hw0⟩ : ∃ w0, ((w.alloc (.cells #[.slice A n cap] 24)).alloc (.cells #[.int .i64 z] 3)).alloc (.cells #[.bool false] 4) = w0 := ⟨_, rfl⟩
  have hB0 : Below w.heap.size w w0 := by rw [← hw0]; exact (two_low _ _ _).alloc (by simp; omega) _
  have hb0 : w0.heap[w.heap.size]? = some (.cells #[.slice A n cap] 24) := by rw [← hw0]; exact (Below.heap_alloc _ _ _ (by simp; omega)).trans ((Below.heap_alloc _ _ _ (by simp)).trans (heap_alloc_new w _))
  have hm0 : w0.heap[w.heap.size + 1]? = some (.cells #[.int .i64 z] 3) := by
    rw [← hw0]; refine (Below.heap_alloc _ _ _ (by simp)).trans ?_
    have := heap_alloc_new (w.alloc (.cells #[.slice A n cap] 24)) (.cells #[.int .i64 z] 3); rwa [World.size_alloc] at this
  have hr0 : w0.heap[w.heap.size + 2]? = some (.cells #[.bool false] 4) := by
    rw [← hw0]; have := heap_alloc_new ((w.alloc (.cells #[.slice A n cap] 24)).alloc (.cells #[.int .i64 z] 3)) (.cells #[.bool false] 4); rwa [World.size_alloc, World.size_alloc] at this
  have CC := fun W (hB : Below w.heap.size w W) => refCheck_calls l hl hin _ W (((h.low hB)).mono fun j hj => by have := hB.size; omega)
  have CR := fun W (hB : Below w.heap.size w W) => reaches_calls l hl hin _ W (((h.low hB)).mono fun j hj => by have := hB.size; omega)
  have CU := fun W (hB : Below w.heap.size w W) => uses_calls l hl hin hsum fr _ W (((h.low hB)).mono fun j hj => by have := hB.size; omega)
  have CF := fun W (hB : Below w.heap.size w W) => refUses_calls l hl hin hsum fr _ W (((h.low hB)).mono fun j hj => by have := hB.size; omega)
  have CH := fun (a b : Nat) (hg : goodG l) (hb : b < l.length) W (hB : Below w.heap.size w W) => refReach_calls l hg _ a b b (Nat.le_refl _) hb W (((h.low hB)).mono fun j hj => by have := hB.size; omega)
  have hus := usesL_le l fr
  rw [hn] at CC CR CU CF CH ⊢
  have HCC := Lib.hid CC
  have HCR := Lib.hid CR
  have HCU := Lib.hid CU
  have HCF := Lib.hid CF
  have HCH := Lib.hid CH
  have HL := Lib.hid hn
  have HW := Lib.hid hw0
  have HB0 := Lib.hid hB0
  have HBX := Lib.hid hb0
  have HMX := Lib.hid hm0
  have HRX := Lib.hid hr0
  have HMZ := Lib.hid hmz
  clear CC CR CU CF CH h hn hin hl hw0 hB0 hb0 hr0 hm0 hmz
  refine callsIn_of_wp_marks Try.func4 rfl trivial ?_ rfl
  simp only [Try.ntmps4, List.size_toArray, List.length_cons, List.length_nil, Nat.reduceAdd, Nat.reduceSub, Array.replicate_succ, Array.replicate_zero, List.push_toArray, List.append_toArray, List.nil_append, List.cons_append]
  by_cases h100 : 100 < n
  · have hdI : (100 : Int) < (n : Int) := by omega
    gi_wp2_with fail
    rw [HW.out]
    refine ⟨trivial, ?_⟩
    refine (callsIn_wide.2 (known_calls w0)).mono ?_
    rintro e w1 ⟨rfl, B1⟩
    obtain ⟨d0, _⟩ := box1 ((B1.block w.heap.size (lt_of_some HBX.out)).trans HBX.out)
    have HB1 := Lib.hid B1
    clear B1
    gi_wp2_with fail
    refine ⟨trivial, ?_⟩
    refine (callsIn_wide.2 (known_calls w1)).mono ?_
    rintro e w2 ⟨rfl, B2⟩
    have hB2 := HB1.out.trans (B2.mono HB1.out.size)
    have hr2 := (hB2.block (w.heap.size + 2) (lt_of_some HRX.out)).trans HRX.out
    obtain ⟨r2, r2f⟩ := box1 hr2
    have hrl := lt_of_some hr2
    have HR2 := Lib.hid hr2
    have HB2 := Lib.hid hB2
    clear B2 hB2 hr2
    gi_wp2_with fail
    have hws : (w2.setCell ⟨w.heap.size + 2, 0, none⟩ (.bool true)).heap[w.heap.size + 2]? = some (.cells #[.bool true] 4) := stored1 HR2.out _
    have hlw := (HB0.out.trans (HB2.out.mono HB0.out.size)).setCell (p := ⟨w.heap.size + 2, 0, none⟩) (by show w.heap.size ≤ w.heap.size + 2; omega) (.bool true)
    refine leaves_marks [] (lo := w0.heap.size) (Marks.nil _ _) fun W' hb' hk' => ?_
    have hc5 := ret_box ((hk' (w.heap.size + 2) (fun h => by cases h)).trans hws)
    refine ⟨.bool true, ?_, rfl, hlw.trans (hb'.mono HB0.out.size)⟩
    simp [results, Try.f4, go_sem, hc5]
  · have hd : decide (100 < n) = false := decide_eq_false h100
    have hdI : decide ((100 : Int) < (n : Int)) = false := decide_eq_false (by omega)
    gi_wp2_with fail
    rw [HW.out]
    refine ⟨trivial, ?_⟩
    refine (callsIn_wide.2 (known_calls w0)).mono ?_
    rintro e w1 ⟨rfl, B1⟩
    obtain ⟨d0, _⟩ := box1 ((B1.block w.heap.size (lt_of_some HBX.out)).trans HBX.out)
    have HB1 := Lib.hid B1
    clear B1
    gi_wp2_with fail
    refine ⟨trivial, ?_⟩
    have hB01 := HB0.out.trans (HB1.out.mono HB0.out.size)
    refine (callsIn_wide.2 (HCF.out w1 hB01)).mono ?_
    rintro e w2 ⟨vl, rfl, hrow, B2⟩
    obtain ⟨Al, cl, rfl, _⟩ := hrow.form
    obtain ⟨nl, hnl⟩ : ∃ nl, (usesL l fr).length = nl := ⟨_, rfl⟩
    rw [hnl] at hus hrow ⊢
    have hB02 := HB1.out.trans (B2.mono HB1.out.size)
    have hm2 := (hB02.block (w.heap.size + 1) (lt_of_some HMX.out)).trans HMX.out
    obtain ⟨m2, m2f⟩ := box1 hm2
    have hml := lt_of_some hm2
    obtain ⟨v2, _⟩ := box1 ((hB02.block w.heap.size (lt_of_some HBX.out)).trans HBX.out)
    have hwl2 : w.heap.size < w2.heap.size := by omega
    obtain ⟨M, hM⟩ : ∃ M, 1 + m = M := ⟨_, rfl⟩
    have HNL := Lib.hid hnl
    have HROW := Lib.hid hrow
    have HM2 := Lib.hid hm2
    have HB02 := Lib.hid hB02
    have HMM := Lib.hid hM
    have HB01 := Lib.hid hB01
    clear hnl hrow B2 hB02 hm2 hB01 d0 hM
    gi_wp2_with fail
    rw [HMZ.out]
    have hwm : wrap64 (1 + (m : Int)) = (M : Int) := by rw [IntWalk.wrap64_in _ (by omega)]; have := HMM.out; omega
    rw [hwm]
    clear hwm
    obtain ⟨w5, hw5⟩ : ∃ w5, ((w2.setCell ⟨w.heap.size + 1, 0, none⟩ (.int .i64 (M : Nat))).alloc (.cells #[.slice Al nl cl] 32)).alloc (.cells #[.int .i64 0] 3) = w5 := ⟨_, rfl⟩
    rw [hw5]
    obtain ⟨X, hX⟩ : ∃ X, w2.heap.size = X := ⟨_, rfl⟩
    have hsx : (w2.setCell ⟨w.heap.size + 1, 0, none⟩ (.int .i64 (M : Nat))).heap.size = X := by rw [← hX]; simp [World.setCell]
    have hB25 : Below (w2.setCell ⟨w.heap.size + 1, 0, none⟩ (.int .i64 (M : Nat))).heap.size (w2.setCell ⟨w.heap.size + 1, 0, none⟩ (.int .i64 (M : Nat))) w5 := by rw [← hw5]; exact two_low _ _ _
    have hl5 : w5.heap[X]? = some (.cells #[.slice Al nl cl] 32) := by
      rw [← hw5, ← hsx]; exact (Below.heap_alloc _ _ _ (by simp)).trans (heap_alloc_new _ _)
    have hn5 : w5.heap[X + 1]? = some (.cells #[.int .i64 0] 3) := by
      rw [← hw5, ← hsx]
      have := heap_alloc_new ((w2.setCell ⟨w.heap.size + 1, 0, none⟩ (.int .i64 (M : Nat))).alloc (.cells #[.slice Al nl cl] 32)) (.cells #[.int .i64 0] 3); rwa [World.size_alloc] at this
    have hs02 := HB02.out.size
    have hs0 : w0.heap.size = w.heap.size + 1 + 1 + 1 := by
      have := HRX.out
      rw [← HW.out]; simp
    have hX0 : w0.heap.size ≤ X := by omega
    have hlt5 : ∀ k, k < X → k ≠ w.heap.size + 1 → w5.heap[k]? = w2.heap[k]? := fun k hk hne => (hB25.block k (by omega)).trans (Below.heap_setCell _ _ _ _ hne)
    have hm5 : w5.heap[w.heap.size + 1]? = some (.cells #[.int .i64 (M : Nat)] 3) := (hB25.block _ (by omega)).trans (stored1 HM2.out _)
    have hg5 : w5.heap[w.heap.size]? = some (.cells #[.slice A n cap] 24) := (hlt5 _ (by omega) (by omega)).trans ((HB02.out.block w.heap.size (by omega)).trans HBX.out)
    have hr5 : w5.heap[w.heap.size + 1 + 1]? = some (.cells #[.bool false] 4) := (hlt5 _ (by omega) (by omega)).trans ((HB02.out.block _ (by omega)).trans HRX.out)
    have hrow5 : OwnTwo pf ps 39 w5 w1.heap.size (.slice Al nl cl) (usesL l fr) := HROW.out.keep fun j hj => by
      have h1 := HROW.out.own hj
      have := HB1.out.size
      exact hlt5 j (by omega) (by omega)
    have hB5 : Below w.heap.size w w5 := by
      have h1 : Below w.heap.size w w2 := HB0.out.trans (HB02.out.mono HB0.out.size)
      exact (h1.setCell (p := ⟨w.heap.size + 1, 0, none⟩) (by show w.heap.size ≤ w.heap.size + 1; omega) (.int .i64 (M : Nat))).trans (hB25.mono (by omega))
    have HL5 := Lib.hid hl5
    have HN5 := Lib.hid hn5
    have HM5 := Lib.hid hm5
    have HG5 := Lib.hid hg5
    have HR5 := Lib.hid hr5
    have HROW5 := Lib.hid hrow5
    have HB5 := Lib.hid hB5
    clear hw5 hsx hB25 hl5 hn5 hs02 hlt5 hm5 hg5 hr5 hrow5 hB5 m2 m2f v2 hml hwl2
    refine ⟨trivial, ?_⟩
    refine (callsIn_wide.2 (HCU.out w5 HB5.out)).mono ?_
    rintro e w6 ⟨Bu, uv, rfl, hU, hBu⟩
    have hX5 : X + 1 < w5.heap.size := lt_of_some HN5.out
    have hs6 := hU.low.size
    have HIT := Lib.hid (iter_stops (q - 1) (by omega) Bu (Bu + 1) uv (usesL l fr) (by rw [HNL.out]; omega) w6 hU.box hU.row)
    have huo : ∀ g, uv.ownBlock = some g → X + 1 < g ∧ g < w6.heap.size := fun g hg => by have := hU.row.own hg; omega
    have HUO := Lib.hid huo
    have hl6 := (hU.low.block X (by omega)).trans HL5.out
    have hn6 := (hU.low.block (X + 1) (by omega)).trans HN5.out
    have hm6 := (hU.low.block (w.heap.size + 1) (by omega)).trans HM5.out
    have hg6 := (hU.low.block w.heap.size (by omega)).trans HG5.out
    have hr6 := (hU.low.block (w.heap.size + 1 + 1) (by omega)).trans HR5.out
    have hrow6 := HROW5.out.below hU.low
    have hB6 := HB5.out.trans (hU.low.mono HB5.out.size)
    have HL6 := Lib.hid hl6
    have HN6 := Lib.hid hn6
    have HM6 := Lib.hid hm6
    have HG6 := Lib.hid hg6
    have HR6 := Lib.hid hr6
    have HROW6 := Lib.hid hrow6
    have HB6 := Lib.hid hB6
    have hwX : w.heap.size + 1 + 1 < X := by have := HB02.out.size; omega
    clear hU huo hl6 hn6 hm6 hg6 hr6 hrow6 hB6 hBu
    gi_wp2_with fail
    refine wpIn_rangeFunc_told rfl h1 (gf := 21) (lb := #[.pointer (some ⟨Bu, 0, none⟩)]) rfl trivial (enters_of Try.func21 (by kernel_rfl) rfl)
      HIT.out KeepB.trans (fun W l o o' hl hlo _ _ => ⟨by simp, fun g hg _ => World.putObj_heap_other (by have := HUO.out g hg; omega)⟩) (Below.refl _ _) (fun _ => rfl)
      (fun pre W => W.heap[X + 1]? = some (.cells #[.int .i64 (pre.length : Nat)] 3) ∧ pre.length < M ∧ w6.grownBy W (some (X + 1)))
      (fun c pre W => W.heap[X + 1]? = some (.cells #[.int .i64 (pre.length : Nat)] 3) ∧ (c = .exit 0 ∧ pre.length = M) ∧ w6.grownBy W (some (X + 1)))
      (fun s A' B' row hs hg hr => ⟨box_stays hs.1 hg hr, hs.2.1, grown_beyond hs.2.2 hg fun j e => (hr j e).1⟩) (fun c s A' B' row hs hg hr => ⟨box_stays hs.1 hg hr, hs.2.1, grown_beyond hs.2.2 hg fun j e => (hr j e).1⟩) (fun _ _ _ _ _ _ _ _ => trivial)
      ⟨HN6.out, by show 0 < M; have := HMM.out; omega, ⟨rfl, rfl, rfl, Nat.le_refl _, fun _ _ _ => rfl⟩⟩ (fun x => { tmps := List.toArray ((.agg #[.slice A n cap]) :: (.int .i64 fr) :: (.int .i64 z) :: (.pointer (some ⟨w.heap.size, 0, none⟩)) :: undef :: (.pointer (some ⟨w.heap.size + 1, 0, none⟩)) :: (.pointer (some ⟨w.heap.size + 1 + 1, 0, none⟩)) :: (.pointer (some ⟨X, 0, none⟩)) :: (.pointer (some ⟨X + 1, 0, none⟩)) :: (.int .i64 (x.1 : Nat)) :: (.int .i64 (x.2 : Nat)) :: undef :: undef :: undef :: undef :: undef :: (.bool true) :: (.bool false) :: (.bool false) :: (.pointer (some ⟨w.heap.size, 0, none⟩)) :: (.slice A n cap) :: (.int .i64 (n : Nat)) :: (.bool false) :: (.bool false) :: undef :: (.agg #[.slice A n cap]) :: (.int .i64 fr) :: (.slice Al nl cl) :: (.int .i64 z) :: (.int .u64 (IntKind.u64.wrap z)) :: (.int .u64 ((IntKind.u64.wrap z).tmod 4)) :: (.int .i64 (m : Nat)) :: (.int .i64 (M : Nat)) :: (.agg #[.slice A n cap]) :: (.int .i64 fr) :: (.func (.func 21) #[] #[.pointer (some ⟨Bu, 0, none⟩)]) :: (.int .i64 (x.1 : Nat)) :: (.int .i64 (x.2 : Nat)) :: undef :: undef :: undef :: undef :: undef :: undef :: undef :: undef :: undef :: undef :: undef :: undef :: undef :: undef :: undef :: undef :: undef :: undef :: undef :: undef :: undef :: undef :: undef :: undef :: undef :: undef :: undef :: undef :: undef :: undef :: undef :: undef :: undef :: undef :: undef :: undef :: undef :: undef :: undef :: undef :: undef :: undef :: undef :: undef :: undef :: undef :: undef :: undef :: undef :: undef :: undef :: undef :: undef :: undef :: undef :: undef :: undef :: undef :: undef :: undef :: undef :: undef :: undef :: undef :: undef :: undef :: undef :: undef :: undef :: undef :: undef :: undef :: undef :: undef :: undef :: undef :: undef :: undef :: undef :: undef :: undef :: undef :: undef :: undef :: undef :: undef :: undef :: []), defers := [] }) ?assign ?body ?done ?stop
    case assign =>
      intro l2 x W' K hK
      gi_wp2
      exact hK
    case body =>
      rintro l2 pre ⟨u, ui⟩ W ⟨hnb, hlt, hgr⟩ - ⟨kk, hkk⟩ -
      obtain ⟨pl, hpl⟩ : ∃ pl, pre.length = pl := ⟨_, rfl⟩
      have hget : (usesL l fr)[pl]? = some (u, ui) := by
        have e1 : (pre ++ [((u, ui) : Nat × Nat)])[pl]? = some (u, ui) := by rw [← hpl]; simp
        rw [hkk, List.getElem?_take] at e1
        split at e1
        · exact e1
        · cases e1
      have hpnl : pl < nl := by have := (List.getElem?_eq_some_iff.1 hget).1; rw [HNL.out] at this; exact this
      have hsz := hgr.size
      have hl' := (hgr.block X (by omega) (by simp)).trans HL6.out
      have hrow := HROW6.out.keep (W' := W) fun j hj => hgr.block j (HROW6.out.own hj).2 (by
        have h1 := (HROW5.out.own hj).2
        have h2 := HROW.out.own hj
        have h3 := HB02.out.size
        simp only [ne_eq, Option.some.injEq]; omega)
      obtain ⟨bl, rfl, hcl, hbl1, hbl2, q0, q1⟩ := hrow.cell hget
      dsimp only [pf, ps] at q0 q1
      obtain ⟨q2, _⟩ := box1 hl'
      rw [hpl] at hnb hlt
      obtain ⟨q3, q4⟩ := box1 hnb
      obtain ⟨q5, _⟩ := box1 ((hgr.block (w.heap.size + 1) (by omega) (by simp only [ne_eq, Option.some.injEq]; omega)).trans HM6.out)
      have hnlt := lt_of_some hnb
      have hplI : (pl : Int) < (nl : Int) := by omega
      have hpd : decide (nl ≤ pl) = false := decide_eq_false (by omega)
      have hpdI : decide ((nl : Int) ≤ (pl : Int)) = false := decide_eq_false (by omega)
      have hn3 : 1 ≤ q - 1 - 1 := by omega
      have HNB := Lib.hid hnb
      have HGR := Lib.hid hgr
      have HPL := Lib.hid hpl
      have hnlm : nl ≤ 1048576 := by omega
      clear hnb hgr hrow hl' hget hkk hpl
      by_cases hM : pl + 1 = M
      · have hMb : ((pl : Int) + 1 == (M : Int)) = true := by rw [beq_iff_eq]; omega
        gi_wp2_with fail
        refine ⟨(KeepsOthers.setCell _ _ _), ?_, ⟨rfl, by simp [HPL.out]; omega⟩, HGR.out.trans (grown_set2 _ _ _ _)⟩
        have := stored1 HNB.out (.int .i64 ((pl : Int) + 1))
        simpa [HPL.out] using this
      · have hMb : ((pl : Int) + 1 == (M : Int)) = false := by rw [beq_eq_false_iff_ne]; omega
        gi_wp2_with fail
        refine ⟨(KeepsOthers.setCell _ _ _), ⟨by simp [World.setCell], fun g hg _ => Below.heap_setCell _ _ _ _ (by have := HUO.out g hg; show g ≠ X + 1; omega)⟩, ?_, by simp [HPL.out]; omega, HGR.out.trans (grown_set2 _ _ _ _)⟩
        have := stored1 HNB.out (.int .i64 ((pl : Int) + 1))
        simpa [HPL.out] using this
    case done =>
      rintro D xs W hD rfl ⟨hnb, hlt, hgr⟩ hK
      rw [HNL.out] at hnb hlt
      have hmin : min (M : Int) (nl : Int) = (nl : Int) := by omega
      have hsz := hgr.size
      have hlowW : Below w.heap.size w W := HB6.out.grown hgr HB6.out.size fun k e => by cases e; omega
      obtain ⟨q2, _⟩ := box1 ((hgr.block X (by omega) (by simp)).trans HL6.out)
      obtain ⟨q3, _⟩ := box1 hnb
      obtain ⟨q5, _⟩ := box1 ((hgr.block (w.heap.size + 1) (by omega) (by simp only [ne_eq, Option.some.injEq]; omega)).trans HM6.out)
      have hgW := (hgr.block w.heap.size (by omega) (by simp only [ne_eq, Option.some.injEq]; omega)).trans HG6.out
      have hrW := (hgr.block (w.heap.size + 1 + 1) (by omega) (by simp only [ne_eq, Option.some.injEq]; omega)).trans HR6.out
      obtain ⟨q6, _⟩ := box1 hgW
      have hmk := marks_one (lo := w.heap.size + 1 + 1 + 1) (show w.heap.size + 1 + 1 + 1 ≤ D by omega) hK
      have HLW := Lib.hid hlowW
      have HGW := Lib.hid hgW
      have HRW := Lib.hid hrW
      have HMK := Lib.hid hmk
      clear hnb hgr hK hlowW hgW hrW hmk
      gi_wp2
      refine ⟨trivial, ?_⟩
      refine (callsIn_wide.2 (HCR.out W HLW.out)).mono ?_
      rintro e w7 hr7
      rcases hr7 with ⟨hbad, rfl, B7⟩ | ⟨hgood, R, B, rfl, hWy, B7⟩
      · have hB7 := HLW.out.trans (B7.mono HLW.out.size)
        obtain ⟨p6, _⟩ := box1 ((B7.block w.heap.size (lt_of_some HGW.out)).trans HGW.out)
        have HBW7 := Lib.hid B7
        have HB7 := Lib.hid hB7
        clear hB7 B7 q2 q3 q5 q6
        gi_wp2_with fail
        refine ⟨trivial, ?_⟩
        refine (callsIn_wide.2 (HCC.out w7 HB7.out)).mono ?_
        rintro e w8 ⟨i8, e8, rfl, hc8, B8⟩
        have he : e8 ≠ 0 := fun h => hbad (hc8.good.1 h)
        have hee : (e8 != 0) = true := bne_iff_ne.2 he
        have hBW8 := HBW7.out.trans (B8.mono HBW7.out.size)
        have hr8 := (hBW8.block (w.heap.size + 1 + 1) (lt_of_some HRW.out)).trans HRW.out
        obtain ⟨r6, r6f⟩ := box1 hr8
        have hrl := lt_of_some hr8
        have HR8 := Lib.hid hr8
        have HBW8 := Lib.hid hBW8
        clear hc8 B8 hBW8 hr8 he
        gi_wp2_with fail
        have hws : (w8.setCell ⟨w.heap.size + 1 + 1, 0, none⟩ (.bool true)).heap[w.heap.size + 1 + 1]? = some (.cells #[.bool true] 4) := stored1 HR8.out _
        have hmk2 := (HMK.out.keep fun r hr => HBW8.out.block r (HMK.out.lt hr)).cell (grown_set2 w8 (w.heap.size + 1 + 1) 0 (.bool true)) fun j e => by cases e; exact ⟨_, HR8.out, rfl⟩
        have hlw := (HLW.out.trans (HBW8.out.mono HLW.out.size)).setCell (p := ⟨w.heap.size + 1 + 1, 0, none⟩) (by show w.heap.size ≤ w.heap.size + 1 + 1; omega) (.bool true)
        refine leaves_marks [D] hmk2 fun W' hb' hk' => ?_
        have hc5 := ret_box ((hk' (w.heap.size + 1 + 1) (fun h => by have := (hmk2.at_ _ h).1; omega)).trans hws)
        refine ⟨.bool true, ?_, rfl, hlw.trans (hb'.mono (by omega))⟩
        simp [results, Try.f4, go_sem, hc5]
      · rw [HL.out] at hWy ⊢
        have HGD := Lib.hid hgood
        have hB7 := HLW.out.trans (B7.mono HLW.out.size)
        obtain ⟨p6, _⟩ := box1 ((B7.block w.heap.size (lt_of_some HGW.out)).trans HGW.out)
        have HBW7 := Lib.hid B7
        have HB7 := Lib.hid hB7
        have HWY := Lib.hid hWy
        clear hB7 B7 q2 q3 q5 q6 hgood hWy
        gi_wp2_with fail
        refine ⟨trivial, ?_⟩
        refine (callsIn_wide.2 (HCC.out w7 HB7.out)).mono ?_
        rintro e w8 ⟨i8, e8, rfl, hc8, B8⟩
        obtain rfl := hc8.good.2 HGD.out
        have hBW8 := HBW7.out.trans (B8.mono HBW7.out.size)
        have hg8 := (hBW8.block w.heap.size (lt_of_some HGW.out)).trans HGW.out
        obtain ⟨s6, _⟩ := box1 hg8
        have hWy8 := HWY.out.below B8
        have hn16 : n ≤ 16 := by have := HGD.out.2.1; rw [HL.out] at this; exact this
        have HG8 := Lib.hid hg8
        have HW8 := Lib.hid hWy8
        have HBW8 := Lib.hid hBW8
        have HB8 := Lib.hid (HLW.out.trans (hBW8.mono HLW.out.size))
        clear hc8 B8 hBW8 hg8 hWy8 p6
        gi_wp2_with fail
        gi_loopw [14] (fun s wr => ∃ a : Nat, s = .int .i64 a ∧ a ≤ n ∧ Hid (Below w8.heap.size w8 wr)) (fun s _ => n - (intOf s).toNat)
        case atStart => exact ⟨0, rfl, Nat.zero_le _, Lib.hid (Below.refl _ _)⟩
        case round =>
          obtain ⟨a, rfl, ha, HR⟩ := hrel
          by_cases han : a < n
          · have haI : (a : Int) < (n : Int) := by omega
            have g0 := (HW8.out.below HR.out).cellY (i := a) (Nat.zero_le _) han
            obtain ⟨g2, _⟩ := box1 ((HR.out.block w.heap.size (lt_of_some HG8.out)).trans HG8.out)
            gi_wp2_with fail
            gi_quiet (fail)
            have HRq := Lib.hid (lowD HR.out nq)
            clear g0 g2
            generalize wr.drewN nq = wq at HRq ⊢
            gi_wp2_with fail
            gi_loopw [15] (fun s wr => ∃ b : Nat, s = .int .i64 b ∧ b ≤ n ∧ Hid (Below w8.heap.size w8 wr)) (fun s _ => n - (intOf s).toNat)
            case atStart => exact ⟨0, rfl, Nat.zero_le _, HRq⟩
            case round =>
              obtain ⟨b, rfl, hb, HR⟩ := hrel
              have hWr := HW8.out.below HR.out
              have g0 := hWr.cellY (i := a) (Nat.zero_le _) han
              by_cases hbn : b < n
              · have hbI : (b : Int) < (n : Int) := by omega
                have g1 := (hWr.cellI (i := a) (j := b) (Nat.zero_le _) han hbn).1
                obtain ⟨g2, _⟩ := box1 ((HR.out.block w.heap.size (lt_of_some HG8.out)).trans HG8.out)
                obtain ⟨bj, hbj⟩ : ∃ bj, B a = bj := ⟨_, rfl⟩
                rw [hbj] at g0 g1
                have hB0r := HB8.out.trans (HR.out.mono HB8.out.size)
                have CI := fun d os => Calls.regrown_of (d := d) (os := os) (HCH.out a b HGD.out hbn (grow (redrawn wr d) os) (hB0r.trans ((below_regrown wr d os).mono hB0r.size)))
                obtain ⟨r, hr⟩ : ∃ r, rB l a b = r := ⟨_, rfl⟩
                rw [hr] at g1 CI
                have hrr : (r != r) = false := by cases r <;> rfl
                have HCI := Lib.hid CI
                have k0 := fun d os => cell_regrown g0 d os
                have k1 := fun d os => cell_regrown g1 d os
                have k2 := fun d os => cell_regrown g2 d os
                clear CI hr hbj hB0r hWr
                gi_wp2_with fail
                refine wpIn_wide.2 ?_
                refine wp_region_quiet_below (by kernel_rfl) (by kernel_rfl) ?_
                repeat (go_big_quiet_step (exact HCI.out _ _))
                refine wpQuiet_nil ?_
                intro w' hw'
                obtain ⟨⟨d, os⟩, rfl⟩ := hw'
                have HR3 := Lib.hid (HR.out.trans ((below_regrown wr d os).mono HR.out.size))
                clear HCI k0 k1 k2 g0 g1 g2
                generalize grow (redrawn wr d) os = wn at HR3 ⊢
                gi_wp2_with fail
                go_roundw
                case rel => exact ⟨b + 1, by go_num, by omega, HR3⟩
                case measure => simp [intOf]; omega
              · obtain rfl : b = n := by omega
                clear hWr
                gi_wp2_with fail
                go_roundw
                case rel => exact ⟨a + 1, by go_num, by omega, HR⟩
                case measure => simp [intOf]; omega
          · obtain rfl : a = n := by omega
            have hBWr := HBW8.out.trans (HR.out.mono HBW8.out.size)
            have hr8 := (hBWr.block (w.heap.size + 1 + 1) (lt_of_some HRW.out)).trans HRW.out
            obtain ⟨r6, r6f⟩ := box1 hr8
            have hrl := lt_of_some hr8
            have HR8 := Lib.hid hr8
            have HBWR := Lib.hid hBWr
            clear hr8 hBWr
            gi_wp2_with fail
            have hws : (wr.setCell ⟨w.heap.size + 1 + 1, 0, none⟩ (.bool true)).heap[w.heap.size + 1 + 1]? = some (.cells #[.bool true] 4) := stored1 HR8.out _
            have hmk2 := (HMK.out.keep fun r hr => HBWR.out.block r (HMK.out.lt hr)).cell (grown_set2 wr (w.heap.size + 1 + 1) 0 (.bool true)) fun j e => by cases e; exact ⟨_, HR8.out, rfl⟩
            have hlw := (HLW.out.trans (HBWR.out.mono HLW.out.size)).setCell (p := ⟨w.heap.size + 1 + 1, 0, none⟩) (by show w.heap.size ≤ w.heap.size + 1 + 1; omega) (.bool true)
            refine leaves_marks [D] hmk2 fun W' hb' hk' => ?_
            have hc5 := ret_box ((hk' (w.heap.size + 1 + 1) (fun h => by have := (hmk2.at_ _ h).1; omega)).trans hws)
            refine ⟨.bool true, ?_, rfl, hlw.trans (hb'.mono (by omega))⟩
            simp [results, Try.f4, go_sem, hc5]
    case stop =>
      rintro D c pre W hD ⟨kk, hkk⟩ ⟨hnb, ⟨rfl, hpm⟩, hgr⟩ hK
      have hple : pre.length ≤ nl := by rw [hkk, List.length_take, HNL.out]; omega
      rw [hpm] at hnb hple
      have hmin : min (M : Int) (nl : Int) = (M : Int) := by omega
      clear hkk hpm
      have hsz := hgr.size
      have hlowW : Below w.heap.size w W := HB6.out.grown hgr HB6.out.size fun k e => by cases e; omega
      obtain ⟨q2, _⟩ := box1 ((hgr.block X (by omega) (by simp)).trans HL6.out)
      obtain ⟨q3, _⟩ := box1 hnb
      obtain ⟨q5, _⟩ := box1 ((hgr.block (w.heap.size + 1) (by omega) (by simp only [ne_eq, Option.some.injEq]; omega)).trans HM6.out)
      have hgW := (hgr.block w.heap.size (by omega) (by simp only [ne_eq, Option.some.injEq]; omega)).trans HG6.out
      have hrW := (hgr.block (w.heap.size + 1 + 1) (by omega) (by simp only [ne_eq, Option.some.injEq]; omega)).trans HR6.out
      obtain ⟨q6, _⟩ := box1 hgW
      have hmk := marks_one (lo := w.heap.size + 1 + 1 + 1) (show w.heap.size + 1 + 1 + 1 ≤ D by omega) hK
      have HLW := Lib.hid hlowW
      have HGW := Lib.hid hgW
      have HRW := Lib.hid hrW
      have HMK := Lib.hid hmk
      clear hnb hgr hK hlowW hgW hrW hmk
      gi_wp2
      refine ⟨trivial, ?_⟩
      refine (callsIn_wide.2 (HCR.out W HLW.out)).mono ?_
      rintro e w7 hr7
      rcases hr7 with ⟨hbad, rfl, B7⟩ | ⟨hgood, R, B, rfl, hWy, B7⟩
      · have hB7 := HLW.out.trans (B7.mono HLW.out.size)
        obtain ⟨p6, _⟩ := box1 ((B7.block w.heap.size (lt_of_some HGW.out)).trans HGW.out)
        have HBW7 := Lib.hid B7
        have HB7 := Lib.hid hB7
        clear hB7 B7 q2 q3 q5 q6
        gi_wp2_with fail
        refine ⟨trivial, ?_⟩
        refine (callsIn_wide.2 (HCC.out w7 HB7.out)).mono ?_
        rintro e w8 ⟨i8, e8, rfl, hc8, B8⟩
        have he : e8 ≠ 0 := fun h => hbad (hc8.good.1 h)
        have hee : (e8 != 0) = true := bne_iff_ne.2 he
        have hBW8 := HBW7.out.trans (B8.mono HBW7.out.size)
        have hr8 := (hBW8.block (w.heap.size + 1 + 1) (lt_of_some HRW.out)).trans HRW.out
        obtain ⟨r6, r6f⟩ := box1 hr8
        have hrl := lt_of_some hr8
        have HR8 := Lib.hid hr8
        have HBW8 := Lib.hid hBW8
        clear hc8 B8 hBW8 hr8 he
        gi_wp2_with fail
        have hws : (w8.setCell ⟨w.heap.size + 1 + 1, 0, none⟩ (.bool true)).heap[w.heap.size + 1 + 1]? = some (.cells #[.bool true] 4) := stored1 HR8.out _
        have hmk2 := (HMK.out.keep fun r hr => HBW8.out.block r (HMK.out.lt hr)).cell (grown_set2 w8 (w.heap.size + 1 + 1) 0 (.bool true)) fun j e => by cases e; exact ⟨_, HR8.out, rfl⟩
        have hlw := (HLW.out.trans (HBW8.out.mono HLW.out.size)).setCell (p := ⟨w.heap.size + 1 + 1, 0, none⟩) (by show w.heap.size ≤ w.heap.size + 1 + 1; omega) (.bool true)
        refine leaves_marks [D] hmk2 fun W' hb' hk' => ?_
        have hc5 := ret_box ((hk' (w.heap.size + 1 + 1) (fun h => by have := (hmk2.at_ _ h).1; omega)).trans hws)
        refine ⟨.bool true, ?_, rfl, hlw.trans (hb'.mono (by omega))⟩
        simp [results, Try.f4, go_sem, hc5]
      · rw [HL.out] at hWy ⊢
        have HGD := Lib.hid hgood
        have hB7 := HLW.out.trans (B7.mono HLW.out.size)
        obtain ⟨p6, _⟩ := box1 ((B7.block w.heap.size (lt_of_some HGW.out)).trans HGW.out)
        have HBW7 := Lib.hid B7
        have HB7 := Lib.hid hB7
        have HWY := Lib.hid hWy
        clear hB7 B7 q2 q3 q5 q6 hgood hWy
        gi_wp2_with fail
        refine ⟨trivial, ?_⟩
        refine (callsIn_wide.2 (HCC.out w7 HB7.out)).mono ?_
        rintro e w8 ⟨i8, e8, rfl, hc8, B8⟩
        obtain rfl := hc8.good.2 HGD.out
        have hBW8 := HBW7.out.trans (B8.mono HBW7.out.size)
        have hg8 := (hBW8.block w.heap.size (lt_of_some HGW.out)).trans HGW.out
        obtain ⟨s6, _⟩ := box1 hg8
        have hWy8 := HWY.out.below B8
        have hn16 : n ≤ 16 := by have := HGD.out.2.1; rw [HL.out] at this; exact this
        have HG8 := Lib.hid hg8
        have HW8 := Lib.hid hWy8
        have HBW8 := Lib.hid hBW8
        have HB8 := Lib.hid (HLW.out.trans (hBW8.mono HLW.out.size))
        clear hc8 B8 hBW8 hg8 hWy8 p6
        gi_wp2_with fail
        gi_loopw [14] (fun s wr => ∃ a : Nat, s = .int .i64 a ∧ a ≤ n ∧ Hid (Below w8.heap.size w8 wr)) (fun s _ => n - (intOf s).toNat)
        case atStart => exact ⟨0, rfl, Nat.zero_le _, Lib.hid (Below.refl _ _)⟩
        case round =>
          obtain ⟨a, rfl, ha, HR⟩ := hrel
          by_cases han : a < n
          · have haI : (a : Int) < (n : Int) := by omega
            have g0 := (HW8.out.below HR.out).cellY (i := a) (Nat.zero_le _) han
            obtain ⟨g2, _⟩ := box1 ((HR.out.block w.heap.size (lt_of_some HG8.out)).trans HG8.out)
            gi_wp2_with fail
            gi_quiet (fail)
            have HRq := Lib.hid (lowD HR.out nq)
            clear g0 g2
            generalize wr.drewN nq = wq at HRq ⊢
            gi_wp2_with fail
            gi_loopw [15] (fun s wr => ∃ b : Nat, s = .int .i64 b ∧ b ≤ n ∧ Hid (Below w8.heap.size w8 wr)) (fun s _ => n - (intOf s).toNat)
            case atStart => exact ⟨0, rfl, Nat.zero_le _, HRq⟩
            case round =>
              obtain ⟨b, rfl, hb, HR⟩ := hrel
              have hWr := HW8.out.below HR.out
              have g0 := hWr.cellY (i := a) (Nat.zero_le _) han
              by_cases hbn : b < n
              · have hbI : (b : Int) < (n : Int) := by omega
                have g1 := (hWr.cellI (i := a) (j := b) (Nat.zero_le _) han hbn).1
                obtain ⟨g2, _⟩ := box1 ((HR.out.block w.heap.size (lt_of_some HG8.out)).trans HG8.out)
                obtain ⟨bj, hbj⟩ : ∃ bj, B a = bj := ⟨_, rfl⟩
                rw [hbj] at g0 g1
                have hB0r := HB8.out.trans (HR.out.mono HB8.out.size)
                have CI := fun d os => Calls.regrown_of (d := d) (os := os) (HCH.out a b HGD.out hbn (grow (redrawn wr d) os) (hB0r.trans ((below_regrown wr d os).mono hB0r.size)))
                obtain ⟨r, hr⟩ : ∃ r, rB l a b = r := ⟨_, rfl⟩
                rw [hr] at g1 CI
                have hrr : (r != r) = false := by cases r <;> rfl
                have HCI := Lib.hid CI
                have k0 := fun d os => cell_regrown g0 d os
                have k1 := fun d os => cell_regrown g1 d os
                have k2 := fun d os => cell_regrown g2 d os
                clear CI hr hbj hB0r hWr
                gi_wp2_with fail
                refine wpIn_wide.2 ?_
                refine wp_region_quiet_below (by kernel_rfl) (by kernel_rfl) ?_
                repeat (go_big_quiet_step (exact HCI.out _ _))
                refine wpQuiet_nil ?_
                intro w' hw'
                obtain ⟨⟨d, os⟩, rfl⟩ := hw'
                have HR3 := Lib.hid (HR.out.trans ((below_regrown wr d os).mono HR.out.size))
                clear HCI k0 k1 k2 g0 g1 g2
                generalize grow (redrawn wr d) os = wn at HR3 ⊢
                gi_wp2_with fail
                go_roundw
                case rel => exact ⟨b + 1, by go_num, by omega, HR3⟩
                case measure => simp [intOf]; omega
              · obtain rfl : b = n := by omega
                clear hWr
                gi_wp2_with fail
                go_roundw
                case rel => exact ⟨a + 1, by go_num, by omega, HR⟩
                case measure => simp [intOf]; omega
          · obtain rfl : a = n := by omega
            have hBWr := HBW8.out.trans (HR.out.mono HBW8.out.size)
            have hr8 := (hBWr.block (w.heap.size + 1 + 1) (lt_of_some HRW.out)).trans HRW.out
            obtain ⟨r6, r6f⟩ := box1 hr8
            have hrl := lt_of_some hr8
            have HR8 := Lib.hid hr8
            have HBWR := Lib.hid hBWr
            clear hr8 hBWr
            gi_wp2_with fail
            have hws : (wr.setCell ⟨w.heap.size + 1 + 1, 0, none⟩ (.bool true)).heap[w.heap.size + 1 + 1]? = some (.cells #[.bool true] 4) := stored1 HR8.out _
            have hmk2 := (HMK.out.keep fun r hr => HBWR.out.block r (HMK.out.lt hr)).cell (grown_set2 wr (w.heap.size + 1 + 1) 0 (.bool true)) fun j e => by cases e; exact ⟨_, HR8.out, rfl⟩
            have hlw := (HLW.out.trans (HBWR.out.mono HLW.out.size)).setCell (p := ⟨w.heap.size + 1 + 1, 0, none⟩) (by show w.heap.size ≤ w.heap.size + 1 + 1; omega) (.bool true)
            refine leaves_marks [D] hmk2 fun W' hb' hk' => ?_
            have hc5 := ret_box ((hk' (w.heap.size + 1 + 1) (fun h => by have := (hmk2.at_ _ h).1; omega)).trans hws)
            refine ⟨.bool true, ?_, rfl, hlw.trans (hb'.mono (by omega))⟩
            simp [results, Try.f4, go_sem, hc5]

theorem graphWays_law (l : List Opr) (hl : l.length * 72 ≤ 140737488351232) (hin : ∀ x ∈ l, x.ins.length * 8 ≤ 140737488351232) (hsum : insN l ≤ 1048576) (fr z : Int) (v : Value) (w : World) (h : OldO w.heap.size w v l) :
    Calls Try.prog 4 #[.agg #[v], .int .i64 fr, .int .i64 z] w (RetT true w) := callsIn_wide.1 (graphWays_in 12 (Nat.le_refl _) l hl hin hsum fr z v w h)

end Go.Proofs.Ytbgmhjcccabmmaa.Graph
