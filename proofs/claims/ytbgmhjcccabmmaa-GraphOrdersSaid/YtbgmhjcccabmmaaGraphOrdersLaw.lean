/-
  The walk of the law GraphOrders.
-/
import Derived.Test.YtbgmhjcccabmmaaGraphMarks
namespace Go.Proofs.Ytbgmhjcccabmmaa.Graph
open Go Go.RowKit Go.Shelf Go.Lib Go.Proofs.Ytbgmhjcccabmmaa.Law

attribute [local go_sem] Oper.semAt_some

set_option maxRecDepth 100000 in
set_option maxHeartbeats 64000000 in
theorem graphOrders_in (q : Nat) (hq : 12 ≤ q) (l : List Opr) (hl : l.length * 72 ≤ 140737488351232) (hin : ∀ x ∈ l, x.ins.length * 8 ≤ 140737488351232) (v : Value) (w : World) (h : OldO w.heap.size w v l) :
    CallsIn Fence.wide q Try.prog 5 #[.agg #[v]] w (RetT true w) := by
  have h1 : 1 ≤ q := by omega
  obtain ⟨A, cap, rfl, _⟩ := h.form
  obtain ⟨n, hn⟩ : ∃ n, l.length = n := ⟨_, rfl⟩
  obtain ⟨w0, hw0⟩ : ∃ w0, (w.alloc (.cells #[.slice A n cap] 24)).alloc (.cells #[.bool false] 4) = w0 := ⟨_, rfl⟩
  have hB0 : Below w.heap.size w w0 := by rw [← hw0]; exact two_low _ _ _
  have hb0 : w0.heap[w.heap.size]? = some (.cells #[.slice A n cap] 24) := by rw [← hw0]; exact (Below.heap_alloc _ _ _ (by simp)).trans (heap_alloc_new w _)
  have hr0 : w0.heap[w.heap.size + 1]? = some (.cells #[.bool false] 4) := by
    rw [← hw0]; have := heap_alloc_new (w.alloc (.cells #[.slice A n cap] 24)) (.cells #[.bool false] 4); rwa [World.size_alloc] at this
  have CC := fun W (hB : Below w0.heap.size w0 W) => check_calls l hl hin _ W ((h.on hB0).on hB)
  have CR := fun W (hB : Below w0.heap.size w0 W) => reaches_calls l hl hin _ W ((h.on hB0).on hB)
  have CU := fun (hg : goodG l) (fr : Int) W (hB : Below w0.heap.size w0 W) => uses_calls l hl hin (by have := insN_good hg; omega) fr _ W ((h.on hB0).on hB)
  rw [hn] at CC CR CU ⊢
  have HCC := Lib.hid CC
  have HCR := Lib.hid CR
  have HCU := Lib.hid CU
  have HL := Lib.hid hn
  have HW := Lib.hid hw0
  have HB0 := Lib.hid hB0
  have HBX := Lib.hid hb0
  have HRX := Lib.hid hr0
  clear CC CR CU h hn hin hl hw0 hB0 hb0 hr0
  refine callsIn_of_wp_marks Try.func5 rfl trivial ?_ rfl
  simp only [Try.ntmps5, List.size_toArray, List.length_cons, List.length_nil, Nat.reduceAdd, Nat.reduceSub, Array.replicate_succ, Array.replicate_zero, List.push_toArray, List.append_toArray, List.nil_append, List.cons_append]
  gi_wp2_with fail
  rw [HW.out]
  refine ⟨trivial, ?_⟩
  refine (callsIn_wide.2 (known_calls w0)).mono ?_
  rintro e w1 ⟨rfl, B1⟩
  have HB1 := Lib.hid B1
  obtain ⟨d0, _⟩ := box1 ((B1.block w.heap.size (lt_of_some HBX.out)).trans HBX.out)
  clear B1
  gi_wp2_with fail
  refine ⟨trivial, ?_⟩
  refine (callsIn_wide.2 (HCR.out w1 HB1.out)).mono ?_
  rintro e w2 hr2
  rcases hr2 with ⟨hbad, rfl, B2⟩ | ⟨hgood, R, B, rfl, hWy, B2⟩
  · have hB2 := HB1.out.trans (B2.mono HB1.out.size)
    obtain ⟨w4, hw4⟩ : ∃ w4, (w2.alloc (.cells #[.slice none 0 0] 40)).alloc (.cells #[.int .i64 0] 3) = w4 := ⟨_, rfl⟩
    have hB4 : Below w2.heap.size w2 w4 := by rw [← hw4]; exact two_low _ _ _
    have hx4 : w4.heap[w2.heap.size]? = some (.cells #[.slice none 0 0] 40) := by rw [← hw4]; exact (Below.heap_alloc _ _ _ (by simp)).trans (heap_alloc_new w2 _)
    have hp4 : w4.heap[w2.heap.size + 1]? = some (.cells #[.int .i64 0] 3) := by
      rw [← hw4]; have := heap_alloc_new (w2.alloc (.cells #[.slice none 0 0] 40)) (.cells #[.int .i64 0] 3); rwa [World.size_alloc] at this
    obtain ⟨X, hX⟩ : ∃ X, w2.heap.size = X := ⟨_, rfl⟩
    rw [hX] at hx4 hp4
    have hB04 := hB2.trans (hB4.mono hB2.size)
    obtain ⟨x0, _⟩ := box1 hx4
    obtain ⟨y0, _⟩ := box1 hp4
    obtain ⟨v0, _⟩ := box1 ((hB04.block w.heap.size (lt_of_some HBX.out)).trans HBX.out)
    have HX4 := Lib.hid hx4
    have HB04 := Lib.hid hB04
    have HW4 := Lib.hid hw4
    have HXX := Lib.hid hX
    clear hB2 hB4 hx4 hp4 hB04 hw4 hX B2 d0
    gi_wp2_with fail
    rw [HW4.out, HXX.out]
    refine wpIn_loop_rounds 1 ?_
    rw [roundsIn_succ]
    gi_wp2_with fail
    refine ⟨trivial, ?_⟩
    refine (callsIn_wide.2 (HCC.out w4 HB04.out)).mono ?_
    rintro e w6 ⟨i6, e6, rfl, hc6, B6⟩
    have he : e6 ≠ 0 := fun h => hbad (hc6.good.1 h)
    have hee : (e6 == 0) = false := beq_eq_false_iff_ne.2 he
    have hB06 := HB04.out.trans (B6.mono HB04.out.size)
    obtain ⟨x6, _⟩ := box1 ((B6.block X (lt_of_some HX4.out)).trans HX4.out)
    have hr6 := (hB06.block (w.heap.size + 1) (lt_of_some HRX.out)).trans HRX.out
    obtain ⟨r6, r6f⟩ := box1 hr6
    have hrl := lt_of_some hr6
    have HB06 := Lib.hid hB06
    have HR6 := Lib.hid hr6
    clear hc6 B6 hB06 hr6 he
    gi_wp2_with fail
    have hws : (w6.setCell ⟨w.heap.size + 1, 0, none⟩ (.bool true)).heap[w.heap.size + 1]? = some (.cells #[.bool true] 4) := stored1 HR6.out _
    have hlw := (HB0.out.trans (HB06.out.mono HB0.out.size)).setCell (p := ⟨w.heap.size + 1, 0, none⟩) (by show w.heap.size ≤ w.heap.size + 1; omega) (.bool true)
    refine leaves_marks [] (lo := w0.heap.size) (Marks.nil _ _) fun W' hb' hk' => ?_
    have hc5 := ret_box ((hk' (w.heap.size + 1) (fun h => by cases h)).trans hws)
    refine ⟨.bool true, ?_, rfl, hlw.trans (hb'.mono HB0.out.size)⟩
    simp [results, Try.f5, go_sem, hc5]
  · rw [HL.out] at hWy ⊢
    have hn1 : 1 ≤ n := by have := hgood.1; rw [HL.out] at this; exact this
    have hn16 : n ≤ 16 := by have := hgood.2.1; rw [HL.out] at this; exact this
    have HGD := Lib.hid hgood
    have hB2 := HB1.out.trans (B2.mono HB1.out.size)
    obtain ⟨X, hX⟩ : ∃ X, w2.heap.size = X := ⟨_, rfl⟩
    obtain ⟨w4, hw4⟩ : ∃ w4, (w2.alloc (.cells #[.slice (some ⟨R, 0, none⟩) n n] 40)).alloc (.cells #[.int .i64 0] 3) = w4 := ⟨_, rfl⟩
    have hB4 : Below w2.heap.size w2 w4 := by rw [← hw4]; exact two_low _ _ _
    have hx4 : w4.heap[X]? = some (.cells #[.slice (some ⟨R, 0, none⟩) n n] 40) := by rw [← hw4, ← hX]; exact (Below.heap_alloc _ _ _ (by simp)).trans (heap_alloc_new w2 _)
    have hp4 : w4.heap[X + 1]? = some (.cells #[.int .i64 0] 3) := by
      rw [← hw4, ← hX]; have := heap_alloc_new (w2.alloc (.cells #[.slice (some ⟨R, 0, none⟩) n n] 40)) (.cells #[.int .i64 0] 3); rwa [World.size_alloc] at this
    have hlo : w0.heap.size ≤ w1.heap.size := HB1.out.size
    have hWy4 : Ways w4 w0.heap.size R n 0 B (rB l) := by
      have := hWy.below hB4
      exact ⟨⟨this.row.1, by
        rcases this.row.2 with h0 | ⟨g, c, cur, e, h1, h2⟩
        · exact .inl h0
        · exact .inr ⟨g, c, cur, e, by omega, h2⟩⟩, fun i h1 h2 => ⟨(this.rows i h1 h2).1, by
        rcases (this.rows i h1 h2).2 with h0 | ⟨g, c, cur, e, h1, h2⟩
        · exact .inl h0
        · exact .inr ⟨g, c, cur, e, by omega, h2⟩⟩, this.far, this.apart⟩
    have hst : StO w0 w4 l R X n (X + 1) 0 [] B := ⟨hB2.trans (hB4.mono hB2.size), hx4, hWy4, hp4, by have := hB2.size; omega, Marks.nil _ _⟩
    have HST := Lib.hid hst
    have HW4 := Lib.hid hw4
    have HXX := Lib.hid hX
    clear hWy B2 hgood hB2 hw4 hB4 hx4 hp4 hWy4 hst d0 hX
    gi_wp2_with fail
    rw [HW4.out, HXX.out]
    refine wpIn_loop (fun a' W => ∃ (u5 u6 u7 u14 u15 u16 u17 u18 u19 u20 u21 u22 u23 u24 u25 u26 u27 u28 u29 u30 u31 u32 u33 u34 u35 u36 u37 u38 u39 u40 u41 u42 u43 u44 u45 u46 u47 u48 u49 u50 u51 u52 u53 u54 u55 u56 u57 u58 u59 u60 u61 u62 u63 u64 u65 u66 u67 u68 u69 u70 u71 u72 u73 u74 u75 u76 u77 u78 u79 u80 u81 u82 u83 u84 u85 u86 u87 u88 u89 u90 u91 u92 u93 u94 u95 u96 u97 u98 : Value) (p k : Nat) (rs : List Nat), Hid (StO w0 W l R X n p k rs B) ∧ k ≤ n ∧ a' = { tmps := List.toArray ((.agg #[.slice A n cap]) :: (.pointer (some ⟨w.heap.size, 0, none⟩)) :: (.pointer (some ⟨w.heap.size + 1, 0, none⟩)) :: (.pointer (some ⟨X, 0, none⟩)) :: (.pointer (some ⟨p, 0, none⟩)) :: u5 :: u6 :: u7 :: undef :: undef :: (.bool true) :: (.bool false) :: (.agg #[.slice A n cap]) :: (.slice (some ⟨R, 0, none⟩) n n) :: u14 :: u15 :: u16 :: u17 :: u18 :: u19 :: u20 :: u21 :: u22 :: u23 :: u24 :: u25 :: u26 :: u27 :: u28 :: u29 :: u30 :: u31 :: u32 :: u33 :: u34 :: u35 :: u36 :: u37 :: u38 :: u39 :: u40 :: u41 :: u42 :: u43 :: u44 :: u45 :: u46 :: u47 :: u48 :: u49 :: u50 :: u51 :: u52 :: u53 :: u54 :: u55 :: u56 :: u57 :: u58 :: u59 :: u60 :: u61 :: u62 :: u63 :: u64 :: u65 :: u66 :: u67 :: u68 :: u69 :: u70 :: u71 :: u72 :: u73 :: u74 :: u75 :: u76 :: u77 :: u78 :: u79 :: u80 :: u81 :: u82 :: u83 :: u84 :: u85 :: u86 :: u87 :: u88 :: u89 :: u90 :: u91 :: u92 :: u93 :: u94 :: u95 :: u96 :: u97 :: u98 :: undef :: undef :: undef :: undef :: undef :: undef :: undef :: undef :: undef :: undef :: undef :: []), defers := rs.map markOf }) (fun a' W => n - boxN a' 4 W) ⟨undef, undef, undef, undef, undef, undef, undef, undef, undef, undef, undef, undef, undef, undef, undef, undef, undef, undef, undef, undef, undef, undef, undef, undef, undef, undef, undef, undef, undef, undef, undef, undef, undef, undef, undef, undef, undef, undef, undef, undef, undef, undef, undef, undef, undef, undef, undef, undef, undef, undef, undef, undef, undef, undef, undef, undef, undef, undef, undef, undef, undef, undef, undef, undef, undef, undef, undef, undef, undef, undef, undef, undef, undef, undef, undef, undef, undef, undef, undef, undef, undef, undef, undef, undef, undef, undef, undef, undef, X + 1, 0, [], HST, Nat.zero_le _, rfl⟩ ?_
    rintro _ W ⟨u5, u6, u7, u14, u15, u16, u17, u18, u19, u20, u21, u22, u23, u24, u25, u26, u27, u28, u29, u30, u31, u32, u33, u34, u35, u36, u37, u38, u39, u40, u41, u42, u43, u44, u45, u46, u47, u48, u49, u50, u51, u52, u53, u54, u55, u56, u57, u58, u59, u60, u61, u62, u63, u64, u65, u66, u67, u68, u69, u70, u71, u72, u73, u74, u75, u76, u77, u78, u79, u80, u81, u82, u83, u84, u85, u86, u87, u88, u89, u90, u91, u92, u93, u94, u95, u96, u97, u98, p, k, rs, HS, hk, rfl⟩
    obtain ⟨x0, _⟩ := box1 HS.out.xb
    obtain ⟨y0, _⟩ := box1 HS.out.pb
    by_cases hkn : k < n
    · have hkI : (k : Int) < (n : Int) := by omega
      gi_wp2_with fail
      gi_loop [5] (fun i => ∃ b : Nat, i = .int .i64 b ∧ b ≤ n) (fun i => n - (intOf i).toNat)
      case atStart => exact ⟨0, rfl, Nat.zero_le _⟩
      case round =>
        obtain ⟨b, rfl, hb⟩ := hrel
        by_cases hbn : b < n
        · have hbI : (b : Int) < (n : Int) := by omega
          have z0 := HS.out.wy.cellY (i := k) (Nat.zero_le _) hkn
          have z1 := (HS.out.wy.cellI (i := k) (j := b) (Nat.zero_le _) hkn hbn).1
          obtain ⟨c, hc⟩ : ∃ c, rB l k b = c := ⟨_, rfl⟩
          rw [hc] at z1
          have hc1 : c = true → k ≤ b := fun h => rB_le HGD.out (hc.trans h)
          have hc2 : c = false → k ≠ b := fun h e => by rw [h, ← e, rB_self] at hc; cases hc
          obtain ⟨bk, hbk⟩ : ∃ bk, B k = bk := ⟨_, rfl⟩
          rw [hbk] at z0 z1
          have HC := Lib.hid hc
          have HBK := Lib.hid hbk
          clear hc hbk
          cases c with
          | true =>
            have hkb := hc1 rfl
            clear hc1 hc2
            have hd : decide ((b : Int) < (k : Int)) = false := decide_eq_false (by omega)
            by_cases he : k = b
            · subst he
              gi_wp2_with fail
              gi_loop [6] (fun i => ∃ c : Nat, i = .int .i64 c ∧ c ≤ n) (fun i => n - (intOf i).toNat)
              case atStart => exact ⟨0, rfl, Nat.zero_le _⟩
              case round =>
                obtain ⟨c, rfl, hcn⟩ := hrel
                by_cases hcl : c < n
                · have hcI : (c : Int) < (n : Int) := by omega
                  have t1 := (HS.out.wy.cellI (i := k) (j := c) (Nat.zero_le _) hkn hcl).1
                  obtain ⟨y, hy⟩ : ∃ y, rB l k c = y := ⟨_, rfl⟩
                  rw [HBK.out, hy] at t1
                  cases y with
                  | true =>
                    clear hy
                    gi_wp2_with fail
                    go_round
                    case rel => exact ⟨c + 1, by go_num, by omega⟩
                    case measure => simp [intOf]; omega
                  | false =>
                    clear hy
                    gi_wp2_with fail
                    go_round
                    case rel => exact ⟨c + 1, by go_num, by omega⟩
                    case measure => simp [intOf]; omega
                · obtain rfl : c = n := by omega
                  gi_wp2_with fail
                  go_round
                  case rel => exact ⟨k + 1, by go_num, by omega⟩
                  case measure => simp [intOf]; omega
            · have hbe : ((k : Int) == (b : Int)) = false := beq_eq_false_iff_ne.2 (by omega)
              gi_wp2_with fail
              gi_loop [6] (fun i => ∃ c : Nat, i = .int .i64 c ∧ c ≤ n) (fun i => n - (intOf i).toNat)
              case atStart => exact ⟨0, rfl, Nat.zero_le _⟩
              case round =>
                obtain ⟨c, rfl, hcn⟩ := hrel
                by_cases hcl : c < n
                · have hcI : (c : Int) < (n : Int) := by omega
                  have t0 := HS.out.wy.cellY (i := b) (Nat.zero_le _) hbn
                  have t1 := (HS.out.wy.cellI (i := b) (j := c) (Nat.zero_le _) hbn hcl).1
                  have t2 := (HS.out.wy.cellI (i := k) (j := c) (Nat.zero_le _) hkn hcl).1
                  rw [HBK.out] at t2
                  obtain ⟨y, hy⟩ : ∃ y, rB l b c = y := ⟨_, rfl⟩
                  obtain ⟨z, hz⟩ : ∃ z, rB l k c = z := ⟨_, rfl⟩
                  rw [hy] at t1
                  rw [hz] at t2
                  obtain ⟨bb, hbb⟩ : ∃ bb, B b = bb := ⟨_, rfl⟩
                  rw [hbb] at t0 t1
                  cases y with
                  | true =>
                    obtain rfl : z = true := by rw [← hz]; exact rB_trans HC.out hy
                    clear hy hz hbb
                    gi_wp2_with fail
                    go_round
                    case rel => exact ⟨c + 1, by go_num, by omega⟩
                    case measure => simp [intOf]; omega
                  | false =>
                    clear hy hz hbb
                    gi_wp2_with fail
                    go_round
                    case rel => exact ⟨c + 1, by go_num, by omega⟩
                    case measure => simp [intOf]; omega
                · obtain rfl : c = n := by omega
                  gi_wp2_with fail
                  go_round
                  case rel => exact ⟨b + 1, by go_num, by omega⟩
                  case measure => simp [intOf]; omega
          | false =>
            have hkb := hc2 rfl
            clear hc1 hc2
            have hbe : ((k : Int) == (b : Int)) = false := beq_eq_false_iff_ne.2 (by omega)
            gi_wp2_with fail
            gi_loop [6] (fun i => ∃ c : Nat, i = .int .i64 c ∧ c ≤ n) (fun i => n - (intOf i).toNat)
            case atStart => exact ⟨0, rfl, Nat.zero_le _⟩
            case round =>
              obtain ⟨c, rfl, hcn⟩ := hrel
              by_cases hcl : c < n
              · have hcI : (c : Int) < (n : Int) := by omega
                have t0 := HS.out.wy.cellY (i := b) (Nat.zero_le _) hbn
                have t1 := (HS.out.wy.cellI (i := b) (j := c) (Nat.zero_le _) hbn hcl).1
                have t2 := (HS.out.wy.cellI (i := k) (j := c) (Nat.zero_le _) hkn hcl).1
                rw [HBK.out] at t2
                obtain ⟨y, hy⟩ : ∃ y, rB l b c = y := ⟨_, rfl⟩
                obtain ⟨z, hz⟩ : ∃ z, rB l k c = z := ⟨_, rfl⟩
                rw [hy] at t1
                rw [hz] at t2
                obtain ⟨bb, hbb⟩ : ∃ bb, B b = bb := ⟨_, rfl⟩
                rw [hbb] at t0 t1
                clear hy hz hbb
                gi_wp2_with fail
                go_round
                case rel => exact ⟨c + 1, by go_num, by omega⟩
                case measure => simp [intOf]; omega
              · obtain rfl : c = n := by omega
                gi_wp2_with fail
                go_round
                case rel => exact ⟨b + 1, by go_num, by omega⟩
                case measure => simp [intOf]; omega
        · obtain rfl : b = n := by omega
          obtain ⟨v0, _⟩ := box1 ((HS.out.low.block w.heap.size (lt_of_some HBX.out)).trans HBX.out)
          gi_wp2_with fail
          refine ⟨trivial, ?_⟩
          have CU := HCU.out HGD.out (k : Int) W HS.out.low
          refine (callsIn_wide.2 CU).mono ?_
          rintro e w5 ⟨Bu, uv, rfl, hU, hBu⟩
          have hs5 := hU.low.size
          have hS5 := HS.out.below hU.low
          obtain ⟨x5, _⟩ := box1 hS5.xb
          obtain ⟨y5, _⟩ := box1 hS5.pb
          have hus := usesL_le l (k : Int)
          have hin32 := insN_good HGD.out
          have HIT := Lib.hid (iter_stops (q - 1) (by omega) Bu (Bu + 1) uv (usesL l (k : Int)) (by omega) w5 hU.box hU.row)
          have huo : ∀ g, uv.ownBlock = some g → g < w5.heap.size := fun g hg => (hU.row.own hg).2
          have HUO := Lib.hid huo
          have HS5 := Lib.hid hS5
          have hrs5 : ∀ r ∈ rs, r < w5.heap.size := fun r hr => Nat.lt_of_lt_of_le (HS.out.marks.lt hr) hs5
          have HRS5 := Lib.hid hrs5
          have hw05 : w0.heap.size ≤ w5.heap.size := hS5.low.size
          clear CU hU hS5 hus hin32 huo hrs5
          gi_wp2_with fail
          refine wpIn_rangeFunc_told rfl h1 (gf := 21) (lb := #[.pointer (some ⟨Bu, 0, none⟩)]) rfl trivial (enters_of Try.func21 (by kernel_rfl) rfl)
            HIT.out KeepB.trans (fun W l o o' hl hlo _ _ => ⟨by simp, fun g hg _ => World.putObj_heap_other (by have := HUO.out g hg; omega)⟩) (Below.refl _ _) (fun _ => rfl)
            (fun _ W => StO w0 W l R X b p k rs B ∧ Below w5.heap.size w5 W) (fun _ _ _ => False)
            (fun s A' B' row hs hg hr => ⟨hs.1.grown hw05 HRS5.out hg hr, hs.2.grown hg hs.2.size fun j e => (hr j e).1⟩) (fun _ _ _ _ _ hs _ _ => hs) (fun _ _ _ _ _ _ _ _ => trivial)
            ⟨HS5.out, Below.refl _ _⟩ (fun x => { tmps := List.toArray ((.agg #[.slice A b cap]) :: (.pointer (some ⟨w.heap.size, 0, none⟩)) :: (.pointer (some ⟨w.heap.size + 1, 0, none⟩)) :: (.pointer (some ⟨X, 0, none⟩)) :: (.pointer (some ⟨p, 0, none⟩)) :: (.int .i64 (b : Nat)) :: u6 :: (.int .i64 (x.1 : Nat)) :: undef :: undef :: (.bool true) :: (.bool false) :: (.agg #[.slice A b cap]) :: (.slice (some ⟨R, 0, none⟩) b b) :: (.int .i64 (k : Nat)) :: (.slice (some ⟨R, 0, none⟩) b b) :: (.int .i64 (b : Nat)) :: (.bool true) :: u18 :: u19 :: (.int .i64 (b : Nat)) :: (.slice (some ⟨R, 0, none⟩) b b) :: (.int .i64 (b : Nat)) :: (.bool false) :: u24 :: u25 :: u26 :: u27 :: u28 :: u29 :: u30 :: u31 :: u32 :: u33 :: u34 :: u35 :: u36 :: u37 :: u38 :: u39 :: u40 :: u41 :: u42 :: u43 :: u44 :: u45 :: u46 :: u47 :: u48 :: u49 :: u50 :: u51 :: u52 :: u53 :: u54 :: u55 :: u56 :: u57 :: u58 :: u59 :: u60 :: u61 :: u62 :: u63 :: u64 :: u65 :: u66 :: u67 :: u68 :: u69 :: u70 :: u71 :: u72 :: u73 :: u74 :: u75 :: u76 :: u77 :: u78 :: u79 :: u80 :: u81 :: u82 :: u83 :: u84 :: (.agg #[.slice A b cap]) :: (.int .i64 (k : Nat)) :: (.func (.func 21) #[] #[.pointer (some ⟨Bu, 0, none⟩)]) :: (.int .i64 (x.1 : Nat)) :: (.int .i64 (x.2 : Nat)) :: u90 :: u91 :: u92 :: u93 :: u94 :: u95 :: u96 :: u97 :: u98 :: undef :: undef :: undef :: undef :: undef :: undef :: undef :: undef :: undef :: undef :: undef :: []), defers := [] }) ?assign ?body ?done ?stop
          case stop =>
            rintro D c pre W' - - hF
            exact hF.elim
          case assign =>
            intro l2 x W' K hK
            gi_wp2
            exact hK
          case body =>
            rintro l2 pre ⟨u, ui⟩ W' ⟨hS, hW5⟩ - ⟨kk, hkk⟩ -
            have hmem : (u, ui) ∈ usesL l (k : Int) := List.mem_of_mem_take (i := kk) (by rw [← hkk]; simp)
            have hu := uses_fwd HGD.out hmem
            have hru := rB_use hmem
            rw [HL.out] at hu
            obtain ⟨hu1, hu2⟩ := hu
            dsimp only at hu1 hu2 hru
            obtain ⟨q0, _⟩ := box1 hS.xb
            obtain ⟨q1, _⟩ := box1 hS.pb
            have q2 := hS.wy.cellY (i := k) (Nat.zero_le _) hkn
            have q3 := (hS.wy.cellI (i := k) (j := u) (Nat.zero_le _) hkn hu2).1
            rw [hru] at q3
            obtain ⟨bk, hbk⟩ : ∃ bk, B k = bk := ⟨_, rfl⟩
            rw [hbk] at q2 q3
            have huI : (u : Int) < (b : Int) := by omega
            have HSI := Lib.hid hS
            have HW5I := Lib.hid hW5
            clear hS hW5 hbk hru hmem hkk
            gi_wp2_with fail
            exact ⟨KeepsOthers.refl _, ⟨Nat.le_refl _, fun _ _ _ => rfl⟩, HSI.out, HW5I.out⟩
          case done =>
            rintro D xs W' hD - ⟨hS, hW5⟩ hK
            obtain ⟨q1, _⟩ := box1 hS.pb
            have hDrs : D ∉ rs := fun h => by have := HRS5.out D h; omega
            have hpl := lt_of_some hS.pb
            obtain ⟨p', hp'⟩ : ∃ p', W'.heap.size = p' := ⟨_, rfl⟩
            have hkI2 : (k : Int) + 1 ≤ 9223372036854775807 := by omega
            have hnx := hS.next (W' := W'.alloc (.cells #[.int .i64 ((k + 1 : Nat) : Int)] 3)) (k' := k + 1) hDrs (by omega) hK (alloc_low _ _) (Nat.le_refl _) (heap_alloc_new W' _)
            rw [hp'] at hnx
            have HNX := Lib.hid hnx
            have HP' := Lib.hid hp'
            clear hK hS hW5 hnx hp'
            gi_wp2_with fail
            rw [HP'.out]
            refine ⟨?_, ?_⟩
            · (repeat apply Exists.intro)
              refine ⟨HNX, ?_, rfl⟩
              omega
            · refine Nat.lt_of_le_of_lt (Nat.le_of_eq (congrArg (b - ·) (boxN_at HNX.out.pb _ 4 rfl))) ?_
              refine Nat.lt_of_lt_of_le ?_ (Nat.le_of_eq (congrArg (b - ·) (boxN_at HS.out.pb _ 4 rfl)).symm)
              show b - (k + 1) < b - k
              omega
    · obtain rfl : k = n := by omega
      obtain ⟨v0, _⟩ := box1 ((HS.out.low.block w.heap.size (lt_of_some HBX.out)).trans HBX.out)
      gi_wp2_with fail
      refine ⟨trivial, ?_⟩
      refine (callsIn_wide.2 (HCC.out W HS.out.low)).mono ?_
      rintro e w6 ⟨i6, e6, rfl, hc6, B6⟩
      obtain rfl := hc6.good.2 HGD.out
      have hS6 := HS.out.below B6
      obtain ⟨x6, _⟩ := box1 hS6.xb
      have hr6 := (hS6.low.block (w.heap.size + 1) (lt_of_some HRX.out)).trans HRX.out
      obtain ⟨r6, r6f⟩ := box1 hr6
      have hrl := lt_of_some hr6
      have hn0 : 0 < (k : Int) := by omega
      have HS6 := Lib.hid hS6
      have HR6 := Lib.hid hr6
      clear hc6 B6 hS6 hr6
      gi_wp2_with fail
      have hws : (w6.setCell ⟨w.heap.size + 1, 0, none⟩ (.bool true)).heap[w.heap.size + 1]? = some (.cells #[.bool true] 4) := stored1 HR6.out _
      have hmk := HS6.out.marks.cell (grown_set2 w6 (w.heap.size + 1) 0 (.bool true)) fun j e => by cases e; exact ⟨_, HR6.out, rfl⟩
      have hlw := (HB0.out.trans (HS6.out.low.mono HB0.out.size)).setCell (p := ⟨w.heap.size + 1, 0, none⟩) (by show w.heap.size ≤ w.heap.size + 1; omega) (.bool true)
      rw [show decide (0 < k) = true from decide_eq_true (by omega)]
      refine leaves_marks rs hmk fun W' hb' hk' => ?_
      have hc5 := ret_box ((hk' (w.heap.size + 1) (fun h => by have := (HS6.out.marks.at_ _ h).1; have := lt_of_some HRX.out; omega)).trans hws)
      refine ⟨.bool true, ?_, rfl, hlw.trans (hb'.mono HB0.out.size)⟩
      simp [results, Try.f5, go_sem, hc5]

theorem graphOrders_law (l : List Opr) (hl : l.length * 72 ≤ 140737488351232) (hin : ∀ x ∈ l, x.ins.length * 8 ≤ 140737488351232) (v : Value) (w : World) (h : OldO w.heap.size w v l) :
    Calls Try.prog 5 #[.agg #[v]] w (RetT true w) := callsIn_wide.1 (graphOrders_in 12 (Nat.le_refl _) l hl hin v w h)

end Go.Proofs.Ytbgmhjcccabmmaa.Graph
