/-
  Contracts of millraceref05's Take and Lose.
-/
import Derived.Test.YtjcgkjjomiapoaaMailRefTwice
namespace Go.Proofs.Ytjcgkjjomiapoaa.Mail
open Go Go.RowKit Go.Proofs.Ytjcgkjjomiapoaa.Law

/-- A message that lies in a block is put behind a row that is being built. -/
theorem left_append {W : World} {b2 : Nat} {v : Value} {ps : List (Mail3 × Value)} (h : W.ownsRow b2 34 3 v ps.length (flatK ps)) (hbase : b2 ≤ W.heap.size) (ty : TypeId) (b : Nat) (x : Mail3 × Value)
    (hm : W.heap[b]? = some (.cells #[.int .i64 x.1.src, .int .i64 x.1.dst, x.2] 34 (0, 0))) (hone : x.2.oneCell' = true) (hroom : ps.length ≤ 1000000000) :
    ∃ A' c' W', (Builtin.append_ #[29, 29] ty #[v, .slice (some ⟨b, 0, none⟩) 1 1]).run Try.prog W = .ok (.slice A' (ps.length + 1) c') W' ∧ W'.ownsRow b2 34 3 (.slice A' (ps.length + 1) c') (ps.length + 1) (flatK (ps ++ [x])) ∧ Below b2 W W' := by
  obtain ⟨i0, hi, hz0, hz1, hz2⟩ := info_parts info_mail
  obtain ⟨v', W', hrun, h3, h4, _, _⟩ := run_append_own_at (P := Try.prog) W b2 29 ty 34 i0 _ 3 40 Try.underlying29 hi hz0 hz1 hz2 rfl (by decide) v ps.length (flatK ps) h ⟨b, 0, none⟩ 1 1 (flatK [x]) rfl
    (fun j w hw => by
      rw [Addr.add_lit]
      match j, hw with
      | 0, hw => simp [flatK] at hw; subst hw; simp [World.cell?, hm]
      | 1, hw => simp [flatK] at hw; subst hw; simp [World.cell?, hm]
      | 2, hw => simp [flatK] at hw; subst hw; simp [World.cell?, hm]
      | j + 3, hw => simp [flatK] at hw) (flatK_one _ (by simpa using hone)) (by simp only [maxLen]; omega) (by omega) hbase
  obtain ⟨A', c', rfl⟩ := row_form h3
  exact ⟨A', c', W', hrun, by rw [flatK_append]; exact h3, (Below.refl b2 W).grown h4 hbase (fun k hk => (h.lt k hk).1)⟩

theorem setCell_comm (W : World) (a b : Addr) (v u : Value) (h : a.block ≠ b.block) : (W.setCell a v).setCell b u = (W.setCell b u).setCell a v := by
  simp only [World.setCell, World.mk.injEq, and_true]
  apply Array.ext_getElem?
  intro i
  simp only [Array.getElem?_modify]
  split <;> split <;> simp_all
theorem row_at {W W' : World} {base size n : Nat} {e : TypeId} {v : Value} {xs : List Value} (h : W.ownsRow base e size v n xs) (hk : ∀ g, base ≤ g → W'.heap[g]? = W.heap[g]?) : W'.ownsRow base e size v n xs := by
  refine ⟨h.1, ?_⟩
  rcases h.2 with h0 | ⟨g, cp, cur, hv, h1, h2, h3⟩
  · exact .inl h0
  · exact .inr ⟨g, cp, cur, hv, h1, (hk g h1).trans h2, h3⟩

theorem erase_step {α : Type} {l : List α} {k i : Nat} {x : α} (hk : l[k]? = some x) : (l.take (k + 1)).eraseIdx i = if k = i then (l.take k).eraseIdx i else (l.take k).eraseIdx i ++ [x] := by
  obtain ⟨hl, hx⟩ := List.getElem?_eq_some_iff.1 hk
  have hlen : (l.take k).length = k := by rw [List.length_take]; omega
  rw [List.take_succ_eq_append_getElem hl, hx]
  by_cases h : k = i
  · subst h
    have h2 : (l.take k).eraseIdx k = l.take k := List.eraseIdx_of_length_le (by omega)
    rw [if_pos rfl, List.eraseIdx_append_of_length_le (by omega), hlen, Nat.sub_self, h2]
    simp
  · rw [if_neg h]
    by_cases h2 : i < k
    · rw [List.eraseIdx_append_of_lt_length (by omega)]
    · have h3 : (l.take k).eraseIdx i = l.take k := List.eraseIdx_of_length_le (by omega)
      rw [List.eraseIdx_of_length_le (by rw [List.length_append, hlen]; simp; omega), h3]

theorem refSet {w W : World} {base q n : Nat} {nodes : Int} {rv : Value} {ps ps' : List (Mail3 × Value)} {b2 : Nat} {A : Option Addr} {c : Nat} (hbq : base ≤ q) (hbase : base ≤ w.heap.size) (hb2 : w.heap.size ≤ b2) (h1 : RB w q nodes rv) (hR : RowR w base rv ps) (hB : Below w.heap.size w W) (hsub : ∀ p ∈ ps', p ∈ ps)
    (hn : ps'.length = n) (hrow : W.ownsRow b2 34 3 (.slice A n c) n (flatK ps')) : RefPost (W.setCell ⟨q, 1, none⟩ (.slice A n c)) base q nodes (ps'.map (·.1)) ∧ Frm isRefP base w (W.setCell ⟨q, 1, none⟩ (.slice A n c)) := by
  subst hn
  have hq : RB W q nodes rv := (hB.block q h1.lt).trans h1
  have hF : Frm isRefP base w (W.setCell ⟨q, 1, none⟩ (.slice A ps'.length c)) := (Frm.of_below hB hbase).set hq (by decide) hbq (Nat.le_trans hbase hB.size) _
  have hset : Frm isRefP base W (W.setCell ⟨q, 1, none⟩ (.slice A ps'.length c)) := (Frm.refl _ base W).set hq (by decide) hbq (Nat.le_trans hbase hB.size) _
  refine ⟨⟨hbq, _, ps', ?_, rfl, row_frm (row_lower hrow (by omega)) hset (by decide), fun p hp => ownB_frm (hR.2 p (hsub p hp)) hF (by decide)⟩, hF⟩
  have := heap_set hq 1 (.slice A ps'.length c)
  exact this.trans (by simp)

set_option maxRecDepth 100000 in
set_option maxHeartbeats 8000000 in
theorem refTake_calls (base q : Nat) (nodes : Int) (l : List Mail3) (w : World) (h : RefPost w base q nodes l) (hbase : base ≤ w.heap.size) (i : Nat) (m : Mail3) (hi : l[i]? = some m) (hroom : l.length ≤ 1000000000) :
    Calls Try.prog 12 #[.pointer (some ⟨q, 0, none⟩), .int .i64 (i : Nat)] w (RefTaken w base q nodes (l.take i ++ l.drop (i + 1)) m) := by
  obtain ⟨hbq, rv, ps, h1, rfl, hR⟩ := h
  rw [List.getElem?_map] at hi
  obtain ⟨x, hx, rfl⟩ := Option.map_eq_some_iff.1 hi
  have hil : i < ps.length := (List.getElem?_eq_some_iff.1 hx).1
  rw [List.length_map] at hroom
  obtain ⟨c0, c1, c2⟩ := h1.cells
  have hq := h1.lt
  obtain ⟨R, rc, rfl⟩ := hR.form
  obtain ⟨g, rfl, hbg, hglt, hnc, e0, e1, e2, hO, cur, hg⟩ := hR.cell rfl hx
  obtain ⟨⟨S, D, bs⟩, u⟩ := x
  simp only at e0 e1 e2 hO
  obtain ⟨A, cu, rfl⟩ := hO.bytes.form
  obtain ⟨n, hn⟩ : ∃ n, ps.length = n := ⟨_, rfl⟩
  obtain ⟨w1, hw1⟩ : ∃ w1, w.alloc (.cells #[.int .i64 0, .int .i64 0, .slice none 0 0] 34) = w1 := ⟨_, rfl⟩
  have hB1 : Below w.heap.size w w1 := by rw [← hw1]; exact (Below.refl _ _).alloc (Nat.le_refl _) _
  have hs1 : w1.heap.size = w.heap.size + 1 := by rw [← hw1]; simp
  have hr1 : Three w1 w.heap.size (.int .i64 0) (.int .i64 0) (.slice none 0 0) 34 := by rw [← hw1]; exact heap_alloc_new w _
  obtain ⟨w2, hw2⟩ : ∃ w2, w1.alloc (.cells #[.int .i64 S, .int .i64 D, .slice A bs.length cu] 34) = w2 := ⟨_, rfl⟩
  have hb2 : Below w1.heap.size w1 w2 := by rw [← hw2]; exact (Below.refl _ _).alloc (Nat.le_refl _) _
  have hB2 : Below w.heap.size w w2 := hB1.trans (hb2.mono hB1.size)
  have hs2 : w2.heap.size = w.heap.size + 2 := by rw [← hw2]; simp [hs1]
  have hr2 : Three w2 w.heap.size (.int .i64 0) (.int .i64 0) (.slice none 0 0) 34 := three_below hr1 hb2
  have hm2 : Three w2 w1.heap.size (.int .i64 S) (.int .i64 D) (.slice A bs.length cu) 34 := by rw [← hw2]; exact heap_alloc_new w1 _
  have HW1 := Lib.hid hw1
  have HW2 := Lib.hid hw2
  have HS2 := Lib.hid hs2
  have HS1 := Lib.hid hs1
  have HB2 := Lib.hid hB2
  have HR2 := Lib.hid hr2
  have HM2 := Lib.hid hm2
  have HR := Lib.hid hR
  have H1 := Lib.hid h1
  have HO := Lib.hid hO
  have HN := Lib.hid hn
  have b1c := (hB1.cell (p := ⟨q, 1, none⟩) hq).trans c1
  have b1e0 := (hB1.cell (p := ⟨g, i * 3, none⟩) hglt).trans e0
  have b1e1 := (hB1.cell (p := ⟨g, i * 3 + 1, none⟩) hglt).trans e1
  have b1e2 := (hB1.cell (p := ⟨g, i * 3 + 2, none⟩) hglt).trans e2
  have hq1 : q < w1.heap.size := by omega
  have hg1 : g < w1.heap.size := by omega
  rw [hn] at b1c hil hnc hroom
  have hiI : (i : Int) < (n : Int) := by omega
  clear hw1 hw2 hs1 hs2 hB1 hb2 hB2 hr1 hr2 hm2 h1 hR hO hg hx hi c1 e0 e1 e2 c0 c2 hn
  go_enter Try.func12, Try.ntmps12
  go_upto_region 1 with fail
  rw [HW1.out]
  go_upto_region 4 with fail
  rw [HW2.out]
  clear b1c b1e0 b1e1 b1e2
  go_wp2_with fail
  have hni : decide (n ≤ i) = false := by rw [decide_eq_false_iff_not]; omega
  simp only [hni, Bool.or_false]
  go_loopw [7, 8] (fun v kv wr => ∃ k : Nat, kv = .int .i64 k ∧ k ≤ n ∧ wr.ownsRow w2.heap.size 34 3 v ((ps.take k).eraseIdx i).length (flatK ((ps.take k).eraseIdx i)) ∧ Below w2.heap.size w2 wr) (fun _ kv _ => n - (intOf kv).toNat)
  case atStart => exact ⟨0, rfl, Nat.zero_le _, by simpa [flatK] using World.ownsRow_nil w2 w2.heap.size 34 3, Below.refl _ _⟩
  case round =>
    obtain ⟨k, rfl, hk, hrow, hBr⟩ := hrel
    have hs2 := HS2.out
    have hBw := HB2.out.trans (hBr.mono HB2.out.size)
    have hR' := HR.out.below hBw
    have h1' : RB wr q nodes (.slice (some ⟨g, 0, none⟩) ps.length rc) := (hBw.block q hq).trans H1.out
    obtain ⟨-, c1, c2⟩ := h1'.cells
    have c21 := c2 1
    rw [HN.out] at c1
    have hqr : q < wr.heap.size := Nat.lt_of_lt_of_le hq hBw.size
    have hgr : g < wr.heap.size := Nat.lt_of_lt_of_le hglt hBw.size
    have hsr := hBr.size
    obtain ⟨pl, hpl⟩ : ∃ pl, ((ps.take k).eraseIdx i).length = pl := ⟨_, rfl⟩
    have HPL := Lib.hid hpl
    rw [hpl] at hrow
    obtain ⟨A7, c7, rfl⟩ := row_form hrow
    have HROW := Lib.hid hrow
    have HBr := Lib.hid hBr
    have HBw := Lib.hid hBw
    by_cases hlt : k < n
    · obtain ⟨y, hy⟩ : ∃ y, ps[k]? = some y := ⟨_, List.getElem?_eq_getElem (by rw [HN.out]; exact hlt)⟩
      obtain ⟨g', hg', _, _, _, f0, f1, f2, hOy, _⟩ := hR'.cell rfl hy
      obtain rfl : g = g' := by simpa using hg'
      have hst := erase_step (i := i) hy
      have hkI : (k : Int) < (n : Int) := by omega
      have hlen : pl ≤ 1000000000 := by
        have := List.length_eraseIdx_le (ps.take k) i
        have := List.length_take_le k ps
        omega
      by_cases hki : k = i
      · rw [if_pos hki] at hst
        have HST := Lib.hid hst
        have hne : ((k : Int) != (i : Int)) = false := by rw [bne_eq_false_iff_eq]; omega
        clear hst hrow hBr hBw hR' h1' hOy hy f0 f1 f2 hg' c2 hpl
        go_wp2_with fail
        go_roundw
        case rel => exact ⟨k + 1, by go_num, by omega, by rw [HST.out, HPL.out]; exact HROW.out, HBr.out⟩
        case measure => simp [intOf]; omega
      · rw [if_neg hki] at hst
        have hne : ((k : Int) != (i : Int)) = true := by rw [bne_iff_ne]; omega
        obtain ⟨⟨S2, D2, bs2⟩, u2⟩ := y
        simp only at f0 f1 f2 hOy
        obtain ⟨A9, c9, rfl⟩ := hOy.bytes.form
        obtain ⟨bl, hbl⟩ : ∃ bl, bs2.length = bl := ⟨_, rfl⟩
        rw [hbl] at f2 hst
        have hb3 := (Below.refl wr.heap.size wr).alloc (Nat.le_refl _) (.cells #[.int .i64 S2, .int .i64 D2, .slice A9 bl c9] 34)
        obtain ⟨A', c', W', hrun, hrow', hB'⟩ := left_append (x := (⟨S2, D2, bs2⟩, .slice A9 bl c9)) (row_below (by rw [hpl]; exact hrow) hb3) (Nat.le_trans hsr hb3.size) 29 wr.heap.size (heap_alloc_new wr _) rfl (by rw [hpl]; exact hlen)
        rw [hpl] at hrun hrow'
        have HRUN := Lib.hid hrun
        have HROW' : Hid (W'.ownsRow w2.heap.size 34 3 (.slice A' (pl + 1) c') ((ps.take (k + 1)).eraseIdx i).length (flatK ((ps.take (k + 1)).eraseIdx i))) := by
          rw [hst, List.length_append, hpl]; exact hrow'
        have HB' := Lib.hid (hBr.trans ((hb3.mono hsr).trans hB'))
        clear hst hrow hBr hBw hR' h1' hOy hy hg' hrun hrow' hB' hb3 hbl c2 hpl
        go_wp2_with (at_builtin; refine wpList_append_ran rfl _ _ _ rfl rfl rfl HRUN.out ?_)
        go_roundw
        case rel => exact ⟨k + 1, by go_num, by omega, HROW'.out, HB'.out⟩
        case measure => simp [intOf]; omega
    · obtain rfl : k = n := by omega
      have hall : (ps.take k).eraseIdx i = ps.take i ++ ps.drop (i + 1) := by
        rw [← HN.out, List.take_length, List.eraseIdx_eq_take_drop_succ]
      rw [hall] at hrow
      have hlen : (ps.take i ++ ps.drop (i + 1)).length = k - 1 := by rw [List.length_append, List.length_take, List.length_drop, HN.out]; omega
      obtain rfl : pl = k - 1 := by rw [← hpl, hall]; exact hlen
      have hr3 := three_below HR2.out hBr
      have hm3 := three_below HM2.out hBr
      obtain ⟨r0, r1, r2, z0, z1, z2⟩ := hr3.cells
      obtain ⟨p0, p1, p2, -⟩ := hm3.cells
      have hwl : w.heap.size < wr.heap.size := by omega
      have hwl1 : w1.heap.size < wr.heap.size := by have := HS1.out; omega
      have hqw : q ≠ w.heap.size := by omega
      have hqw1 : q ≠ w1.heap.size := by omega
      obtain ⟨wd, hwd⟩ : ∃ wd, ((wr.setCell ⟨w.heap.size, 0, none⟩ (.int .i64 S)).setCell ⟨w.heap.size, 1, none⟩ (.int .i64 D)).setCell ⟨w.heap.size, 2, none⟩ (.slice A bs.length cu) = wd := ⟨_, rfl⟩
      have hk : ∀ k, k ≠ w.heap.size → wd.heap[k]? = wr.heap[k]? := fun k hk => by
        rw [← hwd, Below.heap_setCell _ _ _ _ hk, Below.heap_setCell _ _ _ _ hk, Below.heap_setCell _ _ _ _ hk]
      have hBd : Below w.heap.size w wd := by
        rw [← hwd]
        exact ((hBw.setCell (p := ⟨w.heap.size, 0, none⟩) (Nat.le_refl _) _).setCell (p := ⟨w.heap.size, 1, none⟩) (Nat.le_refl _) _).setCell (p := ⟨w.heap.size, 2, none⟩) (Nat.le_refl _) _
      have hrd : wd.ownsRow w2.heap.size 34 3 (.slice A7 (k - 1) c7) (k - 1) (flatK (ps.take i ++ ps.drop (i + 1))) := row_at hrow fun g hg => hk g (by omega)
      obtain ⟨hP, hF⟩ := refSet (ps := ps) hbq hbase (show w.heap.size ≤ w2.heap.size by omega) H1.out HR.out hBd (fun p hp => by
        rcases List.mem_append.1 hp with hp | hp
        · exact List.mem_of_mem_take hp
        · exact List.mem_of_mem_drop hp) hlen hrd
      have hmap : (ps.take i ++ ps.drop (i + 1)).map (·.1) = (ps.map (·.1)).take i ++ (ps.map (·.1)).drop (i + 1) := by rw [List.map_append, List.map_take, List.map_drop]
      rw [hmap] at hP
      have hFIN : RefTaken w base q nodes ((ps.map (·.1)).take i ++ (ps.map (·.1)).drop (i + 1)) ⟨S, D, bs⟩ (.returned (.tuple #[mailV S D (.slice A bs.length cu), .int .i64 0])) ((((wr.setCell ⟨q, 1, none⟩ (.slice A7 (k - 1) c7)).setCell ⟨w.heap.size, 0, none⟩ (.int .i64 S)).setCell ⟨w.heap.size, 1, none⟩ (.int .i64 D)).setCell ⟨w.heap.size, 2, none⟩ (.slice A bs.length cu)) := by
        rw [setCell_comm _ ⟨q, 1, none⟩ ⟨w.heap.size, 0, none⟩ _ _ hqw, setCell_comm _ ⟨q, 1, none⟩ ⟨w.heap.size, 1, none⟩ _ _ hqw, setCell_comm _ ⟨q, 1, none⟩ ⟨w.heap.size, 2, none⟩ _ _ hqw, hwd]
        exact ⟨_, rfl, (ownB_frm HO.out hF (by decide)).bytes, hP, hF⟩
      have HFIN := Lib.hid hFIN
      clear hFIN hF hP hrow hBr hBw hpl hall hlen hmap hr3 hm3 hR' hrd hBd hk hwd
      go_wp2_with fail
      refine bodyPost_ret (v := .tuple #[mailV S D (.slice A bs.length cu), .int .i64 0]) (by simp [results, Try.results12, go_sem, r0, r1, r2]) rfl HFIN.out

end Go.Proofs.Ytjcgkjjomiapoaa.Mail
