/-
  The walk of the law GraphCounts.
-/
import Derived.Test.YtbgmhjcccabmmaaGraphMarks
import Derived.Test.YtbgmhjcccabmmaaGraphCountMath
namespace Go.Proofs.Ytbgmhjcccabmmaa.Graph
open Go Go.RowKit Go.Shelf Go.Lib Go.Proofs.Ytbgmhjcccabmmaa.Law

attribute [local go_sem] Oper.semAt_some

theorem box_stays2 {A' B' : World} {k D : Nat} {cs : Array Value} {t : TypeId} {row : Option Nat} (h : A'.heap[k]? = some (.cells cs t)) (hg : A'.grownBy B' row) (hr : ∀ r, row = some r → D ≤ r ∧ ∃ o : Obj, A'.heap[r]? = some o ∧ o.isCells = false) : B'.heap[k]? = some (.cells cs t) :=
  (hg.block k (lt_of_some h) fun e => by
    obtain ⟨_, o, ho, hc⟩ := hr _ e.symm
    rw [h] at ho
    cases ho
    cases hc).trans h

set_option maxRecDepth 100000 in
set_option maxHeartbeats 64000000 in
theorem graphCounts_in (q : Nat) (hq : 12 ≤ q) (l : List Opr) (hl : l.length * 72 ≤ 140737488351232) (hin : ∀ x ∈ l, x.ins.length * 8 ≤ 140737488351232) (v : Value) (w : World) (h : OldO w.heap.size w v l) :
    CallsIn Fence.wide q Try.prog 7 #[.agg #[v]] w (RetT true w) := by
  have h1 : 1 ≤ q := by omega
  obtain ⟨A, cap, rfl, _⟩ := h.form
  obtain ⟨n, hn⟩ : ∃ n, l.length = n := ⟨_, rfl⟩
  obtain ⟨w0, hw0⟩ : ∃ w0, (w.alloc (.cells #[.slice A n cap] 24)).alloc (.cells #[.bool false] 4) = w0 := ⟨_, rfl⟩
  have hB0 : Below w.heap.size w w0 := by rw [← hw0]; exact two_low _ _ _
  have hb0 : w0.heap[w.heap.size]? = some (.cells #[.slice A n cap] 24) := by rw [← hw0]; exact (Below.heap_alloc _ _ _ (by simp)).trans (heap_alloc_new w _)
  have hr0 : w0.heap[w.heap.size + 1]? = some (.cells #[.bool false] 4) := by
    rw [← hw0]; have := heap_alloc_new (w.alloc (.cells #[.slice A n cap] 24)) (.cells #[.bool false] 4); rwa [World.size_alloc] at this
  have CC := fun W (hB : Below w0.heap.size w0 W) => check_calls l hl hin _ W ((h.on hB0).on hB)
  have CR := fun W (hB : Below w0.heap.size w0 W) => reaches_calls l hl hin _ W ((h.on hB0).on hB)
  have CU := fun (hg : goodG l) (fr : Int) W (hB : Below w0.heap.size w0 W) => uses_calls l hl hin (by have := insN_good hg; omega) fr _ W ((h.on hB0).on hB)
  rw [hn] at CC CR CU h ⊢
  have HI := Lib.hid h
  have HIN := Lib.hid hin
  have HCC := Lib.hid CC
  have HCR := Lib.hid CR
  have HCU := Lib.hid CU
  have HL := Lib.hid hn
  have HW := Lib.hid hw0
  have HB0 := Lib.hid hB0
  have HBX := Lib.hid hb0
  have HRX := Lib.hid hr0
  clear CC CR CU h hn hin hl hw0 hB0 hb0 hr0
  refine callsIn_of_wp_marks Try.func7 rfl trivial ?_ rfl
  simp only [Try.ntmps7, List.size_toArray, List.length_cons, List.length_nil, Nat.reduceAdd, Nat.reduceSub, Array.replicate_succ, Array.replicate_zero, List.push_toArray, List.append_toArray, List.nil_append, List.cons_append]
  gi_wp2_with fail
  rw [HW.out]
  refine ⟨trivial, ?_⟩
  refine (callsIn_wide.2 (known_calls w0)).mono ?_
  rintro e w1 ⟨rfl, B1⟩
  have HB1 := Lib.hid B1
  obtain ⟨d0, _⟩ := box1 ((B1.block w.heap.size (lt_of_some HBX.out)).trans HBX.out)
  clear B1
  gi_wp2_with fail
  refine ⟨trivial, ?_⟩
  refine (callsIn_wide.2 (HCC.out w1 HB1.out)).mono ?_
  rintro e w2 ⟨ic, er, rfl, hc, B2⟩
  have hB2 := HB1.out.trans (B2.mono HB1.out.size)
  obtain ⟨d1, _⟩ := box1 ((hB2.block w.heap.size (lt_of_some HBX.out)).trans HBX.out)
  have HB2 := Lib.hid hB2
  clear B2 hB2 d0
  by_cases he : er = 0
  · have hgood := hc.good.1 he
    subst he
    have hn1 : 1 ≤ n := by have := hgood.1; rw [HL.out] at this; exact this
    have hn16 : n ≤ 16 := by have := hgood.2.1; rw [HL.out] at this; exact this
    have HGD := Lib.hid hgood
    obtain ⟨w3, hw3⟩ : ∃ w3, w2.alloc (.cells #[.int .i64 0] 3) = w3 := ⟨_, rfl⟩
    obtain ⟨Xu, hXu⟩ : ∃ Xu, w2.heap.size = Xu := ⟨_, rfl⟩
    have hB3 : Below w2.heap.size w2 w3 := by rw [← hw3]; exact alloc_low _ _
    have hu3 : w3.heap[Xu]? = some (.cells #[.int .i64 0] 3) := by rw [← hw3, ← hXu]; exact heap_alloc_new w2 _
    have hB03 := HB2.out.trans (hB3.mono HB2.out.size)
    have hwl : w.heap.size < w2.heap.size := by have := HB2.out.size; have := lt_of_some HBX.out; omega
    have HW3 := Lib.hid hw3
    have HXU := Lib.hid hXu
    have HU3 := Lib.hid hu3
    have HB03 := Lib.hid hB03
    clear hw3 hB3 hu3 hB03 hc hgood hXu
    gi_wp2_with fail
    rw [HW3.out, HXU.out]
    refine ⟨trivial, ?_⟩
    refine (callsIn_wide.2 (HCR.out w3 HB03.out)).mono ?_
    rintro e w4 hr4
    rcases hr4 with ⟨hbad, _⟩ | ⟨_, R, B, rfl, hWy, B4⟩
    · exact absurd HGD.out hbad
    rw [HL.out] at hWy ⊢
    have hw3u : Xu < w3.heap.size := lt_of_some HU3.out
    have hB4' := HB03.out.trans (B4.mono HB03.out.size)
    have hXu0 : w0.heap.size ≤ Xu := by have := HB2.out.size; have := HXU.out; omega
    have hRu : R ≠ Xu := by have := hWy.lt.1; omega
    have hBu : ∀ i, i < n → B i ≠ Xu := fun i hi => by have := (hWy.ltB (i := i) (Nat.zero_le _) hi).1; omega
    have hu4 := (B4.block Xu hw3u).trans HU3.out
    obtain ⟨X, hX⟩ : ∃ X, w4.heap.size = X := ⟨_, rfl⟩
    obtain ⟨w5, hw5⟩ : ∃ w5, (w4.alloc (.cells #[.slice (some ⟨R, 0, none⟩) n n] 40)).alloc (.cells #[.int .i64 0] 3) = w5 := ⟨_, rfl⟩
    have hB5 : Below w4.heap.size w4 w5 := by rw [← hw5]; exact two_low _ _ _
    have hx5 : w5.heap[X]? = some (.cells #[.slice (some ⟨R, 0, none⟩) n n] 40) := by rw [← hw5, ← hX]; exact (Below.heap_alloc _ _ _ (by simp)).trans (heap_alloc_new w4 _)
    have hp5 : w5.heap[X + 1]? = some (.cells #[.int .i64 0] 3) := by
      rw [← hw5, ← hX]; have := heap_alloc_new (w4.alloc (.cells #[.slice (some ⟨R, 0, none⟩) n n] 40)) (.cells #[.int .i64 0] 3); rwa [World.size_alloc] at this
    have hlo : w0.heap.size ≤ w3.heap.size := HB03.out.size
    have hWy5 : Ways w5 w0.heap.size R n 0 B (rB l) := by
      have := hWy.below hB5
      exact ⟨⟨this.row.1, by
        rcases this.row.2 with h0 | ⟨g, c, cur, e, h1, h2⟩
        · exact .inl h0
        · exact .inr ⟨g, c, cur, e, by omega, h2⟩⟩, fun i h1 h2 => ⟨(this.rows i h1 h2).1, by
        rcases (this.rows i h1 h2).2 with h0 | ⟨g, c, cur, e, h1, h2⟩
        · exact .inl h0
        · exact .inr ⟨g, c, cur, e, by omega, h2⟩⟩, this.far, this.apart⟩
    have hXuX : Xu < X := by rw [← hX]; exact Nat.lt_of_lt_of_le hw3u B4.size
    have hst : StO w0 w5 l R X n (X + 1) 0 [] B ∧ w5.heap[Xu]? = some (.cells #[.int .i64 (useN l 0 : Nat)] 3) := ⟨⟨hB4'.trans (hB5.mono hB4'.size), hx5, hWy5, hp5, by omega, Marks.nil _ _⟩, (hB5.block Xu (lt_of_some hu4)).trans hu4⟩
    have HST := Lib.hid hst
    have HW5 := Lib.hid hw5
    have HXX := Lib.hid hX
    have HBU := Lib.hid hBu
    clear hWy B4 hB4' hw5 hB5 hx5 hp5 hWy5 hst d1 hX hwl hu4 hBu
    gi_wp2_with fail
    rw [HW5.out, HXX.out]
    refine wpIn_loop (fun a' W => ∃ (v5 u9 u10 u26 u27 u28 u29 u30 u31 u32 u33 u34 u35 u36 u37 u38 u39 u40 u41 u42 u43 u44 u45 u46 u47 u48 u49 u50 u51 u52 u53 u54 u55 u56 u57 u58 u59 u60 u61 u62 u63 u64 u65 u66 u67 u68 u69 u70 u71 u72 u73 u74 u75 u76 u77 u78 u79 u80 u81 u82 u83 u84 u85 u86 u87 u88 u89 u90 u91 u92 u93 u94 u95 u96 u97 u98 u99 u100 u101 u102 u103 u104 u105 u106 : Value) (p k : Nat) (rs : List Nat), Hid (StO w0 W l R X n p k rs B ∧ W.heap[Xu]? = some (.cells #[.int .i64 (useN l k : Nat)] 3)) ∧ k ≤ n ∧ Xu < p ∧ v5 = .int .i64 (insN (l.take k) : Nat) ∧ a' = { tmps := List.toArray ((.agg #[.slice A n cap]) :: (.pointer (some ⟨w.heap.size, 0, none⟩)) :: (.pointer (some ⟨w.heap.size + 1, 0, none⟩)) :: (.int .i64 ic) :: (.int .i64 0) :: v5 :: (.pointer (some ⟨Xu, 0, none⟩)) :: (.pointer (some ⟨X, 0, none⟩)) :: (.pointer (some ⟨p, 0, none⟩)) :: u9 :: u10 :: (.bool true) :: (.bool false) :: (.tuple #[.int .i64 ic, .int .i64 0]) :: (.agg #[.slice A n cap]) :: (.tuple #[.int .i64 ic, .int .i64 0]) :: (.int .i64 ic) :: (.int .i64 0) :: (.int .i64 0) :: (.bool false) :: undef :: undef :: undef :: undef :: (.agg #[.slice A n cap]) :: (.slice (some ⟨R, 0, none⟩) n n) :: u26 :: u27 :: u28 :: u29 :: u30 :: u31 :: u32 :: u33 :: u34 :: u35 :: u36 :: u37 :: u38 :: u39 :: u40 :: u41 :: u42 :: u43 :: u44 :: u45 :: u46 :: u47 :: u48 :: u49 :: u50 :: u51 :: u52 :: u53 :: u54 :: u55 :: u56 :: u57 :: u58 :: u59 :: u60 :: u61 :: u62 :: u63 :: u64 :: u65 :: u66 :: u67 :: u68 :: u69 :: u70 :: u71 :: u72 :: u73 :: u74 :: u75 :: u76 :: u77 :: u78 :: u79 :: u80 :: u81 :: u82 :: u83 :: u84 :: u85 :: u86 :: u87 :: u88 :: u89 :: u90 :: u91 :: u92 :: u93 :: u94 :: u95 :: u96 :: u97 :: u98 :: u99 :: u100 :: u101 :: u102 :: u103 :: u104 :: u105 :: u106 :: undef :: undef :: undef :: []), defers := rs.map markOf }) (fun a' W => n - boxN a' 8 W) ⟨_, undef, undef, undef, undef, undef, undef, undef, undef, undef, undef, undef, undef, undef, undef, undef, undef, undef, undef, undef, undef, undef, undef, undef, undef, undef, undef, undef, undef, undef, undef, undef, undef, undef, undef, undef, undef, undef, undef, undef, undef, undef, undef, undef, undef, undef, undef, undef, undef, undef, undef, undef, undef, undef, undef, undef, undef, undef, undef, undef, undef, undef, undef, undef, undef, undef, undef, undef, undef, undef, undef, undef, undef, undef, undef, undef, undef, undef, undef, undef, undef, undef, undef, undef, X + 1, 0, [], HST, Nat.zero_le _, by omega, rfl, rfl⟩ ?_
    rintro _ W ⟨_, u9, u10, u26, u27, u28, u29, u30, u31, u32, u33, u34, u35, u36, u37, u38, u39, u40, u41, u42, u43, u44, u45, u46, u47, u48, u49, u50, u51, u52, u53, u54, u55, u56, u57, u58, u59, u60, u61, u62, u63, u64, u65, u66, u67, u68, u69, u70, u71, u72, u73, u74, u75, u76, u77, u78, u79, u80, u81, u82, u83, u84, u85, u86, u87, u88, u89, u90, u91, u92, u93, u94, u95, u96, u97, u98, u99, u100, u101, u102, u103, u104, u105, u106, p, k, rs, HS, hk, hpX, rfl, rfl⟩
    obtain ⟨y0, _⟩ := box1 HS.out.1.pb
    have hgW := (HS.out.1.low.block w.heap.size (lt_of_some HBX.out)).trans HBX.out
    obtain ⟨v0, _⟩ := box1 hgW
    have HGW := Lib.hid hgW
    clear hgW
    have hlW : Below w.heap.size w W := HB0.out.trans (HS.out.1.low.mono HB0.out.size)
    have HLW := Lib.hid hlW
    clear hlW
    by_cases hkn : k < n
    · have hkI : (k : Int) < (n : Int) := by omega
      obtain ⟨x, hx⟩ : ∃ x, l[k]? = some x := ⟨_, List.getElem?_eq_getElem (by rw [HL.out]; exact hkn)⟩
      obtain ⟨ob, off, rfl, hob, hcells⟩ := HI.out.at (by omega)
      obtain ⟨u, hc7, hi⟩ := hcells k x hx
      obtain ⟨Ai, ci, rfl, _⟩ := hi.form
      obtain ⟨mi, hmi⟩ : ∃ mi, x.ins.length = mi := ⟨_, rfl⟩
      have hx2 := (HGD.out.ins hx).1
      have hin32 := insN_good HGD.out
      have hik := insN_le hx
      have hsn : insN (l.take (k + 1)) = insN (l.take k) + mi := by rw [take_snoc hx, ← hmi]; simp only [insN, List.map_append, List.sum_append, List.map_cons, List.map_nil, List.sum_cons, List.sum_nil, Nat.add_zero]
      obtain ⟨I1, hI1⟩ : ∃ I1, insN (l.take k) = I1 := ⟨_, rfl⟩
      rw [hmi] at hc7 hik hx2
      rw [hI1] at hsn hik ⊢
      obtain ⟨c0, c1, c2, c3, c4, c5, c6⟩ := hc7.keep (HLW.out.block ob hob)
      have HSN := Lib.hid hsn
      have HCELLS := Lib.hid hcells
      have hI32 : (I1 : Int) + (mi : Int) ≤ 32 := by omega
      clear hx hi hc7 hmi hsn hI1 hcells
      gi_wp2_with fail
      refine ⟨trivial, ?_⟩
      have CU := HCU.out HGD.out (k : Int) W HS.out.1.low
      refine (callsIn_wide.2 CU).mono ?_
      rintro e w6 ⟨Bu, uv, rfl, hU, hBu⟩
      have hs6 := hU.low.size
      have hS6 := HS.out.1.below hU.low
      have hub6 := (hU.low.block Xu (lt_of_some HS.out.2)).trans HS.out.2
      have hus := usesL_le l (k : Int)
      have HIT := Lib.hid (iter_stops (q - 1) (by omega) Bu (Bu + 1) uv (usesL l (k : Int)) (by omega) w6 hU.box hU.row)
      have huo : ∀ g, uv.ownBlock = some g → W.heap.size ≤ g ∧ g < w6.heap.size := fun g hg => by have := hU.row.own hg; omega
      have HUO := Lib.hid huo
      have HS6 := Lib.hid hS6
      have HUB6 := Lib.hid hub6
      have hXuW := lt_of_some HS.out.2
      have hrs6 : ∀ r ∈ rs, r < w6.heap.size := fun r hr => Nat.lt_of_lt_of_le (HS.out.1.marks.lt hr) hs6
      have hXrs : Xu ∉ rs := fun h => by
        have h1 := (HS.out.1.marks.at_ Xu h).2
        rw [HS.out.2] at h1
        cases h1
      have HRS6 := Lib.hid hrs6
      have HXRS := Lib.hid hXrs
      have hpu : p ≠ Xu := Nat.ne_of_gt hpX
      have hw06 : w0.heap.size ≤ w6.heap.size := hS6.low.size
      clear CU hU hS6 hus huo hrs6 hXrs hub6 hBu
      gi_wp2_with fail
      refine wpIn_rangeFunc_told rfl h1 (gf := 21) (lb := #[.pointer (some ⟨Bu, 0, none⟩)]) rfl trivial (enters_of Try.func21 (by kernel_rfl) rfl)
        HIT.out KeepB.trans (fun W l o o' hl hlo _ _ => ⟨by simp, fun g hg _ => World.putObj_heap_other (by have := HUO.out g hg; omega)⟩) (Below.refl _ _) (fun _ => rfl)
        (fun pre W => W.heap[Xu]? = some (.cells #[.int .i64 (useN l k + pre.length : Nat)] 3) ∧ w6.grownBy W (some Xu)) (fun _ _ _ => False)
        (fun s A' B' row hs hg hr => ⟨box_stays2 hs.1 hg hr, grown_beyond hs.2 hg fun j e => (hr j e).1⟩) (fun _ _ _ _ _ hs _ _ => hs) (fun _ _ _ _ _ _ _ _ => trivial)
        ⟨HUB6.out, ⟨rfl, rfl, rfl, Nat.le_refl _, fun _ _ _ => rfl⟩⟩ (fun x => { tmps := List.toArray ((.agg #[.slice (some ⟨ob, off, none⟩) n cap]) :: (.pointer (some ⟨w.heap.size, 0, none⟩)) :: (.pointer (some ⟨w.heap.size + 1, 0, none⟩)) :: (.int .i64 ic) :: (.int .i64 0) :: (.int .i64 ((I1 : Int) + (mi : Int))) :: (.pointer (some ⟨Xu, 0, none⟩)) :: (.pointer (some ⟨X, 0, none⟩)) :: (.pointer (some ⟨p, 0, none⟩)) :: (.int .i64 (x.1 : Nat)) :: (.int .i64 (x.2 : Nat)) :: (.bool true) :: (.bool false) :: (.tuple #[.int .i64 ic, .int .i64 0]) :: (.agg #[.slice (some ⟨ob, off, none⟩) n cap]) :: (.tuple #[.int .i64 ic, .int .i64 0]) :: (.int .i64 ic) :: (.int .i64 0) :: (.int .i64 0) :: (.bool false) :: undef :: undef :: undef :: undef :: (.agg #[.slice (some ⟨ob, off, none⟩) n cap]) :: (.slice (some ⟨R, 0, none⟩) n n) :: (.int .i64 (k : Nat)) :: (.pointer (some ⟨w.heap.size, 0, none⟩)) :: (.slice (some ⟨ob, off, none⟩) n cap) :: (.int .i64 (n : Nat)) :: (.bool true) :: u31 :: u32 :: (.int .i64 (I1 : Nat)) :: (.pointer (some ⟨w.heap.size, 0, none⟩)) :: (.slice (some ⟨ob, off, none⟩) n cap) :: (.int .i64 (k : Nat)) :: (.pointer (some ⟨ob, off + k * 7, none⟩)) :: (.pointer (some ⟨ob, off + k * 7 + 1, none⟩)) :: (.slice Ai mi ci) :: (.int .i64 (mi : Nat)) :: (.int .i64 ((I1 : Int) + (mi : Int))) :: (.agg #[.slice (some ⟨ob, off, none⟩) n cap]) :: (.int .i64 (k : Nat)) :: (.func (.func 21) #[] #[.pointer (some ⟨Bu, 0, none⟩)]) :: (.int .i64 (x.1 : Nat)) :: (.int .i64 (x.2 : Nat)) :: u47 :: u48 :: u49 :: u50 :: u51 :: u52 :: u53 :: u54 :: u55 :: u56 :: u57 :: u58 :: u59 :: u60 :: u61 :: u62 :: u63 :: u64 :: u65 :: u66 :: u67 :: u68 :: u69 :: u70 :: u71 :: u72 :: u73 :: u74 :: u75 :: u76 :: u77 :: u78 :: u79 :: u80 :: u81 :: u82 :: u83 :: u84 :: u85 :: u86 :: u87 :: u88 :: u89 :: u90 :: u91 :: u92 :: u93 :: u94 :: u95 :: u96 :: u97 :: u98 :: u99 :: u100 :: u101 :: u102 :: u103 :: u104 :: u105 :: u106 :: undef :: undef :: undef :: []), defers := [] }) ?assign ?body ?done ?stop
      case stop =>
        rintro D c pre W' - - hF
        exact hF.elim
      case assign =>
        intro l2 x W' K hK
        gi_wp2
        exact hK
      case body =>
        rintro l2 pre ⟨u, ui⟩ V ⟨hub, hgr⟩ - ⟨kk, hkk⟩ -
        have hmem : (u, ui) ∈ usesL l (k : Int) := List.mem_of_mem_take (i := kk) (by rw [← hkk]; simp)
        have hu := uses_fwd HGD.out hmem
        have hru := rB_use hmem
        obtain ⟨xu, hxu, hxk⟩ := usesL_mem.1 hmem
        have hple : pre.length ≤ 1048576 := by
          have h1 := congrArg List.length hkk
          rw [List.length_append, List.length_take] at h1
          have h2 := usesL_le l (k : Int)
          simp at h1
          omega
        have hul : useN l k ≤ 16 * 32 := by
          have h1 := useN_le (l := l) k
          have h2 : k * insN l ≤ 16 * 32 := Nat.mul_le_mul (by omega) (by omega)
          omega
        rw [HL.out] at hu
        obtain ⟨hu1, hu2⟩ := hu
        dsimp only at hu1 hu2 hru hxu hxk
        have hback := rB_back HGD.out hu1
        have hSV := HS6.out.touch hgr hXu0 (by omega) hpu hRu HBU.out HXRS.out
        obtain ⟨q0, _⟩ := box1 hSV.xb
        obtain ⟨q1, _⟩ := box1 hSV.pb
        have q2 := hSV.wy.cellY (i := k) (Nat.zero_le _) hkn
        have q3 := (hSV.wy.cellI (i := k) (j := u) (Nat.zero_le _) hkn hu2).1
        have q4 := hSV.wy.cellY (i := u) (Nat.zero_le _) hu2
        have q5 := (hSV.wy.cellI (i := u) (j := k) (Nat.zero_le _) hu2 hkn).1
        rw [hru] at q3
        rw [hback] at q5
        obtain ⟨q6, _⟩ := box1 ((hSV.low.block w.heap.size (lt_of_some HBX.out)).trans HBX.out)
        have hlV : Below w.heap.size w V := HB0.out.trans (hSV.low.mono HB0.out.size)
        obtain ⟨uo, hc7, hi7⟩ := HCELLS.out u xu hxu
        obtain ⟨Au, cu, rfl, _⟩ := hi7.form
        obtain ⟨mu, hmu⟩ : ∃ mu, xu.ins.length = mu := ⟨_, rfl⟩
        have huil : ui < mu := by rw [← hmu]; exact (List.getElem?_eq_some_iff.1 hxk).1
        rw [hmu] at hc7 hi7
        obtain ⟨e0, e1, e2, e3, e4, e5, e6⟩ := hc7.keep (hlV.block ob hob)
        obtain ⟨ib, io, rfl, hib, hci⟩ := (IntsAt.low hlV hi7).at (by omega)
        have e7 := hci ui _ hxk
        have hmu2 : mu ≤ 2 := by rw [← hmu]; exact (HGD.out.ins hxu).1
        obtain ⟨bk, hbk⟩ : ∃ bk, B k = bk := ⟨_, rfl⟩
        obtain ⟨bu, hbu⟩ : ∃ bu, B u = bu := ⟨_, rfl⟩
        rw [hbk] at q2 q3
        rw [hbu] at q4 q5
        obtain ⟨q7, q8⟩ := box1 hub
        have hub2 := lt_of_some hub
        obtain ⟨cn, hcn⟩ : ∃ cn, useN l k + pre.length = cn := ⟨_, rfl⟩
        rw [hcn] at q7 hub
        have hcb : (cn : Int) + 1 ≤ 9223372036854775807 := by omega
        have huI : (u : Int) < (n : Int) := by omega
        have huiI : (ui : Int) < (mu : Int) := by omega
        have f1 : decide (u ≤ k) = false := decide_eq_false (by omega)
        have f1I : decide ((u : Int) ≤ (k : Int)) = false := decide_eq_false (by omega)
        have f2 : decide (n ≤ u) = false := decide_eq_false (by omega)
        have f2I : decide ((n : Int) ≤ (u : Int)) = false := decide_eq_false (by omega)
        have f3I : decide ((ui : Int) < 0) = false := decide_eq_false (by omega)
        have f4 : decide (mu ≤ ui) = false := decide_eq_false (by omega)
        have f4I : decide ((mu : Int) ≤ (ui : Int)) = false := decide_eq_false (by omega)
        have f5 : ((k : Int) != (k : Int)) = false := by simp
        have hmix : Try.prog.follows .mixedOrders = true := by kernel_rfl
        have HUB := Lib.hid hub
        have HGR := Lib.hid hgr
        have HCN := Lib.hid hcn
        clear hub hgr hSV hlV hc7 hi7 hci hxu hxk hmem hkk hru hback hbk hbu hmu hcn
        gi_wp2_with fail
        refine wpIn_region_round_lit (by kernel_rfl) (by kernel_rfl) (by kernel_rfl) ?_
        repeat (gi_big_quiet_step (fail))
        refine wpQuietIn_nil ?_
        intro _ hw'
        obtain ⟨nq, hw''⟩ := hw'
        subst hw''
        have r7 : (V.drewN nq).cell? ⟨Xu, 0, none⟩ = some (.int .i64 (cn : Nat)) := q7
        gi_wp2_with fail
        refine ⟨(⟨Nat.le_refl _, fun _ _ h _ => h⟩ : KeepsOthers V (V.drewN nq)).trans (KeepsOthers.setCell _ _ _), ⟨by simp [World.setCell], fun g hg _ => Below.heap_setCell _ _ _ _ (by have := HUO.out g hg; show g ≠ Xu; omega)⟩, ?_, HGR.out.trans ((show V.grownBy (V.drewN nq) (some Xu) from ⟨rfl, rfl, rfl, Nat.le_refl _, fun _ _ _ => rfl⟩).trans (grown_set2 _ _ _ _))⟩
        have := stored1 (W := V.drewN nq) HUB.out (.int .i64 ((cn : Int) + 1))
        rw [List.length_append, ← Nat.add_assoc, HCN.out]
        exact this
      case done =>
        rintro D xs W' hD rfl ⟨hub, hgr⟩ hK
        have hSV := HS6.out.touch hgr hXu0 (by omega) hpu hRu HBU.out HXRS.out
        obtain ⟨q1, _⟩ := box1 hSV.pb
        have hDrs : D ∉ rs := fun h => by have := HRS6.out D h; omega
        have hpl := lt_of_some hSV.pb
        obtain ⟨p', hp'⟩ : ∃ p', W'.heap.size = p' := ⟨_, rfl⟩
        have hkI2 : (k : Int) + 1 ≤ 9223372036854775807 := by omega
        have hnx := hSV.next (W' := W'.alloc (.cells #[.int .i64 ((k + 1 : Nat) : Int)] 3)) (k' := k + 1) hDrs (by omega) hK (alloc_low _ _) (Nat.le_refl _) (heap_alloc_new W' _)
        have hub' : (W'.alloc (.cells #[.int .i64 ((k + 1 : Nat) : Int)] 3)).heap[Xu]? = some (.cells #[.int .i64 (useN l (k + 1) : Nat)] 3) := (Below.heap_alloc _ _ _ (lt_of_some hub)).trans hub
        rw [hp'] at hnx
        have HNX := Lib.hid (And.intro hnx hub')
        have HP' := Lib.hid hp'
        clear hK hub hgr hSV hnx hub' hp'
        gi_wp2_with fail
        rw [HP'.out]
        refine ⟨?_, ?_⟩
        · (repeat apply Exists.intro)
          refine ⟨HNX, ?_, ?_, ?_, rfl⟩
          · omega
          · have := HP'.out; omega
          · rw [HSN.out]; go_num
        · refine Nat.lt_of_le_of_lt (Nat.le_of_eq (congrArg (n - ·) (boxN_at HNX.out.1.pb _ 8 rfl))) ?_
          refine Nat.lt_of_lt_of_le ?_ (Nat.le_of_eq (congrArg (n - ·) (boxN_at HS.out.1.pb _ 8 rfl)).symm)
          show n - (k + 1) < n - k
          omega
    · obtain rfl : k = n := by omega
      have hub := HS.out.2
      have htk : l.take k = l := List.take_of_length_le (by rw [HL.out]; exact Nat.le_refl _)
      have hun := useN_all HGD.out
      rw [HL.out] at hun
      rw [hun] at hub
      obtain ⟨q7, _⟩ := box1 hub
      obtain ⟨c, hc⟩ : ∃ c, insN l = c := ⟨_, rfl⟩
      rw [hc] at q7
      have hr6 := (HS.out.1.low.block (w.heap.size + 1) (lt_of_some HRX.out)).trans HRX.out
      obtain ⟨r6, r6f⟩ := box1 hr6
      have hrl := lt_of_some hr6
      have HR6 := Lib.hid hr6
      rw [htk, hc]
      clear hr6 hub hun hc htk
      gi_wp2_with fail
      have hws : (W.setCell ⟨w.heap.size + 1, 0, none⟩ (.bool true)).heap[w.heap.size + 1]? = some (.cells #[.bool true] 4) := stored1 HR6.out _
      have hmk := HS.out.1.marks.cell (grown_set2 W (w.heap.size + 1) 0 (.bool true)) fun j e => by cases e; exact ⟨_, HR6.out, rfl⟩
      have hlw := HLW.out.setCell (p := ⟨w.heap.size + 1, 0, none⟩) (by show w.heap.size ≤ w.heap.size + 1; omega) (.bool true)
      refine leaves_marks rs hmk fun W' hb' hk' => ?_
      have hc5 := ret_box ((hk' (w.heap.size + 1) (fun h => by have := (HS.out.1.marks.at_ _ h).1; have := lt_of_some HRX.out; omega)).trans hws)
      refine ⟨.bool true, ?_, rfl, hlw.trans (hb'.mono HB0.out.size)⟩
      simp [results, Try.f7, go_sem, hc5]
  · have hbad : ¬ goodG l := fun h => he (hc.good.2 h)
    have heb : (er != 0) = true := bne_iff_ne.2 he
    clear hc
    gi_wp2_with fail
    refine ⟨trivial, ?_⟩
    refine (callsIn_wide.2 (HCR.out w2 HB2.out)).mono ?_
    rintro e w4 hr4
    rcases hr4 with ⟨_, rfl, B4⟩ | ⟨hgood, _⟩
    · have hB04 := HB2.out.trans (B4.mono HB2.out.size)
      have hr6 := (hB04.block (w.heap.size + 1) (lt_of_some HRX.out)).trans HRX.out
      obtain ⟨r6, r6f⟩ := box1 hr6
      have hrl := lt_of_some hr6
      have HB04 := Lib.hid hB04
      have HR6 := Lib.hid hr6
      clear B4 hB04 hr6
      gi_wp2_with fail
      have hws : (w4.setCell ⟨w.heap.size + 1, 0, none⟩ (.bool true)).heap[w.heap.size + 1]? = some (.cells #[.bool true] 4) := stored1 HR6.out _
      have hlw := (HB0.out.trans (HB04.out.mono HB0.out.size)).setCell (p := ⟨w.heap.size + 1, 0, none⟩) (by show w.heap.size ≤ w.heap.size + 1; omega) (.bool true)
      refine leaves_marks [] (lo := w0.heap.size) (Marks.nil _ _) fun W' hb' hk' => ?_
      have hc5 := ret_box ((hk' (w.heap.size + 1) (fun h => by cases h)).trans hws)
      refine ⟨.bool true, ?_, rfl, hlw.trans (hb'.mono HB0.out.size)⟩
      simp [results, Try.f7, go_sem, hc5]
    · exact absurd hgood hbad

theorem graphCounts_law (l : List Opr) (hl : l.length * 72 ≤ 140737488351232) (hin : ∀ x ∈ l, x.ins.length * 8 ≤ 140737488351232) (v : Value) (w : World) (h : OldO w.heap.size w v l) :
    Calls Try.prog 7 #[.agg #[v]] w (RetT true w) := callsIn_wide.1 (graphCounts_in 12 (Nat.le_refl _) l hl hin v w h)

end Go.Proofs.Ytbgmhjcccabmmaa.Graph
