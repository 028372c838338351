/-
  Contract of mail's drop.
-/
import Derived.Test.YtjcgkjjomiapoaaMailDelete
import Derived.StillTailTactics
import Derived.RangeFuncBox
namespace Go.Proofs.Ytjcgkjjomiapoaa.Mail
open Go Go.RowKit Go.Proofs.Ytjcgkjjomiapoaa.Law

/-- Messages of a row are copied to another place of the same row. -/
theorem run_copy_msgs (w : World) (ty : TypeId) (g o dLen dCap : Nat) (a : Addr) (sLen sCap : Nat) (cur : Array Value) (ms : List Msg) (hg : w.heap[g]? = some (.cells cur 68 (0, 0)))
    (hl : ms.length = sLen) (hle : sLen ≤ dLen) (hsrc : ∀ j v, (flatM ms)[j]? = some v → w.cell? (a.add j) = some v) (hfit : o + sLen * 3 ≤ cur.size) :
    (Builtin.copy_ #[63, 63] ty #[.slice (some ⟨g, o, none⟩) dLen dCap, .slice (some a) sLen sCap]).run Try.prog w =
      .ok (.int .i64 (sLen : Nat)) (w.setRow g (cur.toList.take o ++ flatM ms ++ cur.toList.drop (o + sLen * 3)).toArray) := by
  obtain ⟨i0, hi, hz0, hz1, hz2⟩ := info_parts info_message
  have hmin : Nat.min sLen dLen = sLen := Nat.min_eq_left hle
  have hf := run_firstCells_some (P := Try.prog) w i0.size sLen a sLen sCap (flatM ms) (by rw [flatM_length, hl, hz1]) hsrc
  have hst := run_storeCells_at Try.prog g o 68 (flatM ms) 0 cur w hg (by rw [flatM_length, hl]; simpa using hfit) (flatM_one _)
  rw [flatM_length, hl] at hst
  simp only [Nat.add_zero] at hst
  simp [Builtin.copy_, run_underlying Try.underlying63, Builtin.lenOf, sizeOf, typeInfo, hi, hmin, hf, hst, goInt]

/-- A copy whose run is known, as a step of the walk. -/
theorem wpList_copy_ran {P : Program} {ops : Array Oper} {rest : List Oper} {o : Oper} {a : Act} {w : World} {Q : Exit → Act → World → Prop} (hgd : Region.wanted o (yielded ops a.tmps) = true) (s x : Operand) (t u : TypeId)
    (ho : o.op = .call { callee := .builtin .copy, args := #[s, x], argTypes := #[t, u] }) {v sv v' : Value} {w' : World} (hs : a.eval s = v) (hx : a.eval x = sv)
    (hrun : (Builtin.copy_ #[t, u] o.type #[v, sv]).run P w = .ok v' w') (h : wpList P ops Q rest (a.put o.dst v') w') : wpList P ops Q (o :: rest) a w := by
  refine wpList_step fun K hK => ?_
  rw [if_pos hgd]
  unfold Oper.wp execOp
  simp only [ho, resolve, invoke, builtin, Sem.run_bind, Sem.run_pure, Result.andThen_ok, List.map_toArray, List.map_cons, List.map_nil, hs, hx, hrun]
  exact hK _ _ h

/-- What drop leaves; the blocks from n₀ on are as they were. -/
def Dropped (w : World) (base p n₀ : Nat) (nodes : Int) (ms : List Msg) (e : Ending) (W : World) : Prop := e = .returned (.tuple #[]) ∧ Post W base p nodes ms ∧ Frm isPost base w W ∧ (∀ k, n₀ ≤ k → k < w.heap.size → W.heap[k]? = w.heap[k]?) ∧ KeepsOthers w W

theorem front_facts (base g o cap n i : Nat) (ms : List Msg) (w : World) (hn : ms.length = n) (hi : i < n) (hO : Seg w base 68 3 (.slice (some ⟨g, o, none⟩) n cap) n (flatM ms)) :
    ∃ W1, (∀ ty, (Builtin.copy_ #[63, 63] ty #[.slice (some ⟨g, o + 1 * 3, none⟩) (n - 1) (cap - 1), .slice (some ⟨g, o, none⟩) i cap]).run Try.prog w.drew = .ok (.int .i64 (i : Nat)) W1) ∧
      w.grownBy W1 (some g) ∧ (∀ j, j < 3 → (∃ u, W1.cell? ⟨g, o + j, none⟩ = some u) ∧ W1.frozen? ⟨g, o + j, none⟩ = false) ∧
      ∀ x y z, Seg (((W1.setCell ⟨g, o, none⟩ x).setCell ⟨g, o + 1, none⟩ y).setCell ⟨g, o + 2, none⟩ z) base 68 3 (.slice (some ⟨g, o + 1 * 3, none⟩) (n - 1) (cap - 1)) (n - 1) (flatM (ms.take i ++ ms.drop (i + 1))) := by
  obtain ⟨g', o', cur, he, hbg, hg, hnc, hcm, hfit, ht⟩ := hO.at (by omega)
  simp only [Option.some.injEq, Addr.mk.injEq, and_true] at he
  obtain ⟨rfl, rfl⟩ := he
  have hlt : (ms.take i).length = i := by rw [List.length_take]; omega
  have hr := fun ty => run_copy_msgs w.drew ty g (o + 1 * 3) (n - 1) (cap - 1) ⟨g, o, none⟩ i cap cur (ms.take i) hg hlt (by omega) (fun j v hv => by
    rw [Addr.add_lit]
    rw [← flatM_take, List.getElem?_take] at hv
    split at hv
    · exact (hO.cell hv).1
    · cases hv) (by omega)
  obtain ⟨cur1, hcur1⟩ : ∃ cur1, (cur.toList.take (o + 1 * 3) ++ flatM (ms.take i) ++ cur.toList.drop (o + 1 * 3 + i * 3)).toArray = cur1 := ⟨_, rfl⟩
  rw [hcur1] at hr
  have hs1 : cur1.size = cur.size := by
    rw [← hcur1]
    simp only [List.size_toArray, List.length_append, List.length_take, List.length_drop, Array.length_toList, flatM_length]
    omega
  have ht1 : (cur1.toList.drop (o + 1 * 3)).take ((n - 1) * 3) = flatM (ms.take i ++ ms.drop (i + 1)) := by
    rw [← hcur1]
    show List.take _ (List.drop (o + 1 * 3) (_ : List Value)) = _
    have h1 : (cur.toList.take (o + 1 * 3)).length = o + 1 * 3 := by rw [List.length_take, Array.length_toList]; omega
    rw [List.append_assoc, List.drop_append, List.drop_eq_nil_of_le (by omega), h1, Nat.sub_self, List.drop_zero, List.nil_append, flatM_append, List.take_append, List.take_of_length_le (by rw [flatM_length, hlt]; omega)]
    congr 1
    rw [flatM_length, hlt, ← flatM_drop, ← ht, List.drop_take, List.drop_drop]
    congr 1
    · omega
    · congr 1
      omega
  have hg1 : (w.drew.setRow g cur1).heap[g]? = some (.cells cur1 68 (0, 0)) := setRow_heap w.drew g cur cur1 _ _ hg
  have e0 : w.grownBy w.drew (some g) := ⟨rfl, rfl, rfl, Nat.le_refl _, fun _ _ _ => rfl⟩
  refine ⟨w.drew.setRow g cur1, hr, grownBy_trans e0 (setRow_by _ _ _), fun j hj => ⟨?_, ?_⟩, fun x y z => ?_⟩
  · exact ⟨cur1[o + j]'(by omega), by simp [World.cell?, hg1, show o + j < cur1.size by omega]⟩
  · simp [World.frozen?, hg1]
  · have hT := hO.tail 1 (by omega)
    have hg4 := heap_set (heap_set (heap_set hg1 o x) (o + 1) y) (o + 2) z
    refine hT.wrote hg hg4 (by simp [hs1]) ?_ (by omega) ?_
    · rw [flatM_length, List.length_append, hlt, List.length_drop]
      omega
    · rw [← ht1]
      simp only [Array.toList_setIfInBounds]
      rw [List.drop_set_of_lt (by omega), List.drop_set_of_lt (by omega), List.drop_set_of_lt (by omega)]

theorem post_of_row {w W : World} {base p g n m o cap : Nat} {nodes : Int} {rv : Value} {ms' : List Msg} {xs : List Value} {v : Value} (hb : base ≤ p) (hbase : base ≤ w.heap.size) (h1 : PB w p nodes rv) (hO : Seg w base 68 3 rv m xs) (hr : rv.ownBlock = some g) (hg : w.grownBy W (some g)) (hn : ms'.length = n)
    (hv : v = .slice (some ⟨g, o, none⟩) n cap) (hS : Seg W base 68 3 v n (flatM ms')) (n₀ : Nat) (hn₀ : p < n₀) (hg₀ : g < n₀) : Post (W.setCell ⟨p, 1, none⟩ v) base p nodes ms' ∧ Frm isPost base w (W.setCell ⟨p, 1, none⟩ v) ∧ (∀ k, n₀ ≤ k → k < w.heap.size → (W.setCell ⟨p, 1, none⟩ v).heap[k]? = w.heap[k]?) ∧ KeepsOthers w (W.setCell ⟨p, 1, none⟩ v) := by
  subst hn
  obtain ⟨hbg, hlt, cur, hcur⟩ := hO.own g hr
  have hne : g ≠ p := fun e => h1.ne hO (by rw [hr, e])
  have hpb : PB W p nodes rv := (hg.block p h1.lt (fun e => hne (by simpa using e.symm))).trans h1
  refine ⟨⟨hb, v, ?_, ?_⟩, ?_, fun k hk hkl => (Below.heap_setCell _ _ _ _ (show k ≠ p by omega)).trans (hg.block k hkl (fun e => by simp only [Option.some.injEq] at e; omega)), (KeepsOthers.of_grownBy hg (fun j o ej hj => by
    simp only [Option.some.injEq] at ej
    subst ej
    rw [hcur] at hj
    cases hj
    rfl)).trans (KeepsOthers.setCell _ _ _)⟩
  · have := heap_set hpb 1 v
    exact this.trans (by simp)
  · refine hS.keep fun k hk => Below.heap_setCell _ _ _ _ ?_
    subst hv
    simp only [Value.ownBlock, Option.some.injEq] at hk
    rw [← hk]
    exact hne
  · refine ((Frm.refl isPost base w).grown hg (fun k hk => ?_) hbase).set hpb (by decide) hb (Nat.le_trans hbase hg.size) _
    simp only [Option.some.injEq] at hk
    subst hk
    exact ⟨hbg, cur, _, _, hcur, by decide⟩

set_option maxRecDepth 100000 in
set_option maxHeartbeats 4000000 in
theorem drop_calls (base p : Nat) (nodes : Int) (ms : List Msg) (w : World) (h : Post w base p nodes ms) (hbase : base ≤ w.heap.size) (i : Nat) (hi : i < ms.length) (n₀ : Nat) (hn₀ : p < n₀) (hg₀ : ∀ rv, PB w p nodes rv → ∀ g, rv.ownBlock = some g → g < n₀) :
    Calls Try.prog 30 #[.pointer (some ⟨p, 0, none⟩), .int .i64 (i : Nat)] w (Dropped w base p n₀ nodes (ms.take i ++ ms.drop (i + 1))) := by
  obtain ⟨hbp, rv, h1, hO⟩ := h
  obtain ⟨R, rc, rfl, _⟩ := hO.form
  obtain ⟨n, hn⟩ : ∃ n, ms.length = n := ⟨_, rfl⟩
  have hN := Lib.hid hn
  rw [hn] at h1 hO hi
  obtain ⟨g, o, cur, rfl, hbg, hg, hnc, hcm, hfit, _⟩ := hO.at (by omega)
  obtain ⟨c0, c1, c2⟩ := h1.cells
  have hp := h1.lt
  have hglt : g < w.heap.size := (Array.getElem?_eq_some_iff.1 hg).1
  have hgn : g < n₀ := hg₀ _ h1 g rfl
  clear hg₀
  have hne : ¬ g = p := fun e => h1.ne hO (by rw [e]; rfl)
  have hne' : ¬ p = g := fun e => hne e.symm
  have H1 := Lib.hid h1
  have HOO := Lib.hid hO
  have c21 := c2 1
  have hml : ((ms.take i ++ ms.drop (i + 1)).length) = n - 1 := by rw [List.length_append, List.length_take, List.length_drop, hn]; omega
  have HML := Lib.hid hml
  unfold maxLen at hcm
  by_cases hhalf : i < n / 2
  · obtain ⟨W1, hr, hgr, h3, hS⟩ := front_facts base g o rc n i ms w hn hi hO
    have HR := Lib.hid hr
    have HG := Lib.hid hgr
    have HS := Lib.hid (hS (.int .i64 0) (.int .i64 0) (.string ⟨#[]⟩))
    have hc1 : ¬ rc = 1 := by omega
    have hc1' : 1 ≤ rc := by omega
    have hn1 : 1 ≤ n := by omega
    have hn0 : 0 < n := by omega
    have hin : i ≤ rc := by omega
    have HD := Lib.hid (post_of_row hbp hbase h1 HOO.out rfl (grownBy_trans (grownBy_trans (grownBy_trans hgr (grown_set _ _ _ _)) (grown_set _ _ _ _)) (grown_set _ _ _ _)) hml rfl HS.out n₀ hn₀ hgn)
    have hpb := (hgr.block p hp (fun e => hne (by simpa using e.symm))).trans h1
    have hpb : PB W1 p nodes (.slice (some ⟨g, o, none⟩) n rc) := hpb
    obtain ⟨k0, k1, k2⟩ := hpb.cells
    have k21 := k2 1
    obtain ⟨⟨x0, y0⟩, z0⟩ := h3 0 (by decide)
    obtain ⟨⟨x1, y1⟩, z1⟩ := h3 1 (by decide)
    obtain ⟨⟨x2, y2⟩, z2⟩ := h3 2 (by decide)
    rw [Nat.add_zero] at y0 z0
    have hq : ¬ ((n : Int) / 2 ≤ (i : Int)) := by omega
    have hs1 : w.heap.size ≤ W1.heap.size := hgr.size
    have hlim : n ≤ 9223372036854775807 := by omega
    clear hr hgr h3 hS hpb h1 hO hn c2 k2 hg hml
    go_enter Try.func30, Try.ntmps30
    go_wp2_with fail
    have hn1I : (1 : Int) ≤ (n : Int) := by omega
    have hnrI : (n : Int) ≤ (rc : Int) := by omega
    have hirI : (i : Int) ≤ (rc : Int) := by omega
    have hi0I : (0 : Int) ≤ (i : Int) := by omega
    go_still_tail 11, (by kernel_rfl)
    change wpList _ _ _ _ _ w.drew
    refine wpList_copy_ran rfl _ _ _ _ rfl rfl rfl (HR.out _) ?_
    go_wp2_with fail
    go_end0
    exact ⟨rfl, HD.out⟩
  · have hj := delete_calls base g o rc n i (i + 1) ms w hn (by omega) (by omega) hO
    have hjn : i + (n - (i + 1)) = n - 1 := by omega
    rw [hjn] at hj
    have CD := Lib.hid hj
    have hq : (n : Int) / 2 ≤ (i : Int) := by omega
    have hlim : n ≤ 9223372036854775807 := by omega
    clear hj hjn h1 hO hn c2 hg hml
    go_enter Try.func30, Try.ntmps30
    go_wp2_with fail
    refine CD.out.mono ?_
    rintro e W ⟨rfl, hS, hG⟩
    have hpb : PB W p nodes (.slice (some ⟨g, o, none⟩) n rc) := (hG.block p hp (fun e => hne (by simpa using e.symm))).trans H1.out
    obtain ⟨k0, k1, k2⟩ := hpb.cells
    have k21 := k2 1
    have HD := Lib.hid (post_of_row hbp hbase H1.out HOO.out rfl hG HML.out rfl hS n₀ hn₀ hgn)
    clear hS hG hpb k2
    go_wp2_with fail
    go_end0
    exact ⟨rfl, HD.out⟩

end Go.Proofs.Ytjcgkjjomiapoaa.Mail
