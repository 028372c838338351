/-
  Contract of millracelaw05's told.
-/
import Derived.Test.YtjcgkjjomiapoaaMailRefSpoil
import Derived.Test.YtjcgkjjomiapoaaMailAll
import Derived.Test.YtjcgkjjomiapoaaMailKeepsLaw
import Derived.Test.YtjcgkjjomiapoaaToldH
import Derived.Lib.QuietBelowIn
import Derived.Test.YtjcgkjjomiapoaaQuietRound
import Derived.Test.YtjcgkjjomiapoaaQuietTail
import Derived.Sort.BigQuietIn
namespace Go.Proofs.Ytjcgkjjomiapoaa.Mail
open Go Go.RowKit Go.Sort Go.Shelf Go.Proofs.Ytjcgkjjomiapoaa.Law

attribute [local go_sem] Oper.semAt_some

@[local simp] theorem wide_fn (f : FuncId) : Fence.wide.fn f = True := rfl

theorem wpIn_region_round_below {F : Fence} {n : Nat} {P : Program} {id : Nat} {Q : Exit → Act → World → Prop} {a : Act} {w : World} {l : List Oper} (hro : noDefer l = true) (hm : P.follows .mixedOrders = true) (hB : Region.lexB .any l.toArray = true)
    (h : wpQuietIn F n P l.toArray (fun w' => ∃ p : Regrown, w' = grow (redrawn w p.d) p.os) (fun a' => ∀ w', (∃ p : Regrown, w' = grow (redrawn w p.d) p.os) → Q .normal a' w') l a) : (Code.region id l.toArray true).wpIn F n P Q a w :=
  wpIn_region_round (C := fun w' => ∃ p : Regrown, w' = grow (redrawn w p.d) p.os) (by simpa using hro) hm hB ⟨⟨w.drawn + 1, #[]⟩, by rw [grow_empty]; rfl⟩ (by simpa using h)

theorem opaque_post {P : Program} {c : Code} {Q : Exit → Act → World → Prop} {a : Act} {w : World} (h : ∀ QQ : Exit → Act → World → Prop, (∀ a' w', Q .normal a' w' → QQ .normal a' w') → c.wp P QQ a w) : c.wp P Q a w := h Q (fun _ _ h => h)

set_option maxRecDepth 100000 in
set_option maxHeartbeats 8000000 in
theorem told_in (n : Nat) (hn : 5 ≤ n) (base p q : Nat) (nodes nodes2 : Int) (l : List Mail3) (w : World) (hP : Post w base p nodes (l.map Mail3.msg)) (hR : RefPost w base q nodes2 l) (hroom : l.length ≤ 1000) (hsz : ∀ m ∈ l, m.bs.length ≤ 65536) (most : Int) (hmost : most = -1 ∨ 1 ≤ most) :
    CallsIn Fence.wide n Try.prog 20 #[.pointer (some ⟨p, 0, none⟩), .pointer (some ⟨q, 0, none⟩), .int .i64 most] w fun e W => e = .returned (.bool true) ∧ Below w.heap.size w W := by
  have h1 : 1 ≤ n := by omega
  obtain ⟨hbq, rv, ps, hq1, rfl, hRR⟩ := hR
  obtain ⟨R, rc, rfl⟩ := hRR.form
  obtain ⟨N, hN⟩ : ∃ N, ps.length = N := ⟨_, rfl⟩
  have hps : (ps.map (·.1)).length = N := by rw [List.length_map]; exact hN
  rw [hN] at hq1 hRR
  obtain ⟨w1, hw1⟩ : ∃ w1, (((w.alloc (.cells #[.pointer (some ⟨q, 0, none⟩)] 28)).alloc (.cells #[.int .i64 most] 3)).alloc (.cells #[.bool false] 4)).alloc (.cells #[.int .i64 0] 3) = w1 := ⟨_, rfl⟩
  have hs1 : w1.heap.size = w.heap.size + 4 := by rw [← hw1]; simp
  have hB1 : Below w.heap.size w w1 := by
    rw [← hw1]; exact ((((Below.refl _ _).alloc (Nat.le_refl _) _).alloc (by simp) _).alloc (by simp; omega) _).alloc (by simp; omega) _
  have hX1 : Boxed w1 w.heap.size 28 (.pointer (some ⟨q, 0, none⟩)) ∧ Boxed w1 (w.heap.size + 1) 3 (.int .i64 most) ∧ Boxed w1 (w.heap.size + 1 + 1) 4 (.bool false) ∧ Boxed w1 (w.heap.size + 1 + 1 + 1) 3 (.int .i64 0) := by
    rw [← hw1]
    obtain ⟨wa, ha⟩ : ∃ wa, w.alloc (.cells #[.pointer (some ⟨q, 0, none⟩)] 28) = wa := ⟨_, rfl⟩
    have sa : wa.heap.size = w.heap.size + 1 := by rw [← ha]; simp
    have xa : Boxed wa w.heap.size 28 (.pointer (some ⟨q, 0, none⟩)) := by rw [← ha]; exact Boxed.new _ _ _
    rw [ha]
    obtain ⟨wb, hb⟩ : ∃ wb, wa.alloc (.cells #[.int .i64 most] 3) = wb := ⟨_, rfl⟩
    have sb : wb.heap.size = w.heap.size + 1 + 1 := by rw [← hb]; simp [sa]
    have xb : Boxed wb (w.heap.size + 1) 3 (.int .i64 most) := by rw [← hb, ← sa]; exact Boxed.new _ _ _
    have xa' : Boxed wb w.heap.size 28 (.pointer (some ⟨q, 0, none⟩)) := by rw [← hb]; exact xa.alloc _
    rw [hb]
    obtain ⟨wc, hc⟩ : ∃ wc, wb.alloc (.cells #[.bool false] 4) = wc := ⟨_, rfl⟩
    have sc : wc.heap.size = w.heap.size + 1 + 1 + 1 := by rw [← hc]; simp [sb]
    have xc : Boxed wc (w.heap.size + 1 + 1) 4 (.bool false) := by rw [← hc, ← sb]; exact Boxed.new _ _ _
    have xb' : Boxed wc (w.heap.size + 1) 3 (.int .i64 most) := by rw [← hc]; exact xb.alloc _
    have xa'' : Boxed wc w.heap.size 28 (.pointer (some ⟨q, 0, none⟩)) := by rw [← hc]; exact xa'.alloc _
    rw [hc]
    exact ⟨xa''.alloc _, xb'.alloc _, xc.alloc _, by rw [← sc]; exact Boxed.new _ _ _⟩
  have HW1 := Lib.hid hw1
  have CA := Lib.hid (all_calls (some ⟨p, 0, none⟩) w1)
  clear hw1
  refine callsIn_of_wp_marks Try.func20 rfl trivial ?_ rfl
  simp only [Try.ntmps20, List.size_toArray, List.length_cons, List.length_nil, Nat.reduceAdd, Nat.reduceSub, Array.replicate_succ, Array.replicate_zero, List.push_toArray, List.append_toArray, List.nil_append, List.cons_append]
  gi_upto_region 2 with fail
  rw [HW1.out]
  gi_wp2_with fail
  refine ⟨trivial, ?_⟩
  refine ((callsIn_wide.2 CA.out).mono ?_).2
  rintro e w2 ⟨rfl, hbx, hB2⟩
  have hs2 := hB2.size
  have hlt2 : w1.heap.size < w2.heap.size := hbx.lt
  have HP := Lib.hid hP
  have HP2 := Lib.hid (hP.below (hB1.trans (hB2.mono hB1.size)))
  have HB2 := Lib.hid (hB1.trans (hB2.mono hB1.size))
  obtain ⟨x4, x5, x6, x7⟩ := hX1
  have HX4 : Hid (Boxed w2 w.heap.size 28 (.pointer (some ⟨q, 0, none⟩))) := (hB2.block _ x4.lt).trans x4
  have HX5 : Hid (Boxed w2 (w.heap.size + 1) 3 (.int .i64 most)) := (hB2.block _ x5.lt).trans x5
  have HX6 : Hid (Boxed w2 (w.heap.size + 1 + 1) 4 (.bool false)) := (hB2.block _ x6.lt).trans x6
  have HX7 : Hid (Boxed w2 (w.heap.size + 1 + 1 + 1) 3 (.int .i64 0)) := (hB2.block _ x7.lt).trans x7
  have HPS := Lib.hid hps
  have HRR := Lib.hid hRR
  have HQ1 := Lib.hid hq1
  have HN := Lib.hid hN
  have HM := Lib.hid hmost
  have hsm : ∀ m ∈ (ps.map (·.1)).map Mail3.msg, m.s.size ≤ 65536 := by
    intro m hm
    obtain ⟨m3, h3, rfl⟩ := List.mem_map.1 hm
    have := hsz m3 h3
    show (str m3.bs).size ≤ _
    unfold str; show (m3.bs.map UInt8.ofNat).toArray.size ≤ _
    simpa using this
  have hml : ((ps.map (·.1)).map Mail3.msg).length = N := by rw [List.length_map]; exact hps
  have HSM := Lib.hid hsm
  have HML := Lib.hid hml
  have hN1 : N ≤ 1000 := by rw [← hps]; exact hroom
  have hqlt := hq1.lt
  rw [hs1] at hbx hlt2 hs2
  have HBX := Lib.hid hbx
  clear hB1 hB2 CA hbx hP hps hRR hq1 hN hmost hroom hsz hsm hml x4 x5 x6 x7 HW1
  gi_wp2_with fail
  refine wpIn_rangeFunc_toldH rfl h1 (gf := 34) (lb := #[.pointer (some ⟨w.heap.size + 4, 0, none⟩)]) rfl trivial (enters_of Try.func34 (by kernel_rfl) rfl)
      (all_stops (n - 1) (by omega) w.heap.size base p (w.heap.size + 4) nodes _ (by rw [HML.out]; omega) HSM.out w2 HBX.out HP2.out) KM.trans (km_b (by have := HB2.out.size; exact this)) (Below.refl _ _) (fun _ => rfl)
      (fun pre W => Boxed W (w.heap.size + 1 + 1 + 1) 3 (.int .i64 (pre.length : Nat)) ∧ (Boxed W w.heap.size 28 (.pointer (some ⟨q, 0, none⟩)) ∧ (Boxed W (w.heap.size + 1) 3 (.int .i64 most) ∧ (Boxed W (w.heap.size + 1 + 1) 4 (.bool false) ∧ (Below w.heap.size w W ∧ ((pre.length : Nat) : Int) ≠ most)))))
      (fun c pre W => Boxed W (w.heap.size + 1 + 1 + 1) 3 (.int .i64 (pre.length : Nat)) ∧ (Boxed W w.heap.size 28 (.pointer (some ⟨q, 0, none⟩)) ∧ (Boxed W (w.heap.size + 1) 3 (.int .i64 most) ∧ (Boxed W (w.heap.size + 1 + 1) 4 (.bool false) ∧ (Below w.heap.size w W ∧ (((pre.length : Nat) : Int) = most ∧ c = .exit 0))))))
      (OwnFrom.and ((boxed_own _ _ _).from _) (OwnFrom.and ((boxed_own _ _ (fun _ => .pointer (some ⟨q, 0, none⟩))).from _) (OwnFrom.and ((boxed_own _ _ (fun _ => .int .i64 most)).from _) (OwnFrom.and ((boxed_own _ _ (fun _ => .bool false)).from _) (OwnFrom.and (ownFrom_below (Nat.le_refl _) HB2.out.size) (fun _ _ _ _ hs _ _ => hs))))))
      (fun c => OwnFrom.and ((boxed_own _ _ _).from _) (OwnFrom.and ((boxed_own _ _ (fun _ => .pointer (some ⟨q, 0, none⟩))).from _) (OwnFrom.and ((boxed_own _ _ (fun _ => .int .i64 most)).from _) (OwnFrom.and ((boxed_own _ _ (fun _ => .bool false)).from _) (OwnFrom.and (ownFrom_below (Nat.le_refl _) HB2.out.size) (fun _ _ _ _ hs _ _ => hs))))))
      (fun x => Own.from (fun _ A B row hs hg hr => fine_own w2.heap.size x A B row hs hg hr) _)
      ⟨HX7.out, HX4.out, HX5.out, HX6.out, HB2.out, by have := HM.out; show ((0 : Nat) : Int) ≠ most; omega⟩
      (fun hA hg => frm_none (by have := HB2.out.size; omega) hg)
      (fun x a' W => ∃ Bx, Three W Bx (.int .i64 x.2.src) (.int .i64 x.2.dst) x.1 34 ∧ a' = { tmps := List.toArray ((.pointer (some ⟨p, 0, none⟩)) :: (.pointer (some ⟨q, 0, none⟩)) :: (.int .i64 most) :: undef :: (.pointer (some ⟨w.heap.size, 0, none⟩)) :: (.pointer (some ⟨w.heap.size + 1, 0, none⟩)) :: (.pointer (some ⟨w.heap.size + 1 + 1, 0, none⟩)) :: (.pointer (some ⟨w.heap.size + 1 + 1 + 1, 0, none⟩)) :: (.pointer (some ⟨Bx, 0, none⟩)) :: (.pointer (some ⟨p, 0, none⟩)) :: (.func (.func 34) #[] #[.pointer (some ⟨w.heap.size + 4, 0, none⟩)]) :: (mailV x.2.src x.2.dst x.1) :: undef :: undef :: undef :: undef :: undef :: undef :: undef :: undef :: undef :: undef :: undef :: undef :: undef :: undef :: undef :: undef :: undef :: undef :: undef :: undef :: undef :: undef :: undef :: undef :: undef :: undef :: undef :: undef :: undef :: undef :: undef :: undef :: undef :: undef :: undef :: undef :: undef :: undef :: undef :: undef :: undef :: undef :: undef :: undef :: undef :: undef :: []), defers := [] })
      (fun x a' _ A B row hs hg hr => by
        obtain ⟨Bx, h3, h4⟩ := hs
        refine ⟨Bx, h3.at (hg.block _ (lt_of_at h3) (fun e => ?_)), h4⟩
        obtain ⟨_, o, ho, hc⟩ := hr _ e.symm
        unfold Three at h3
        rw [h3] at ho
        cases ho
        cases hc)
      ?assign ?body ?done ?stop
  case assign =>
    intro l pre x W K hI hG hK
    obtain ⟨xv, S, D, T⟩ := x
    obtain ⟨gx, cx, hgx, _⟩ := hG.own
    simp only at hgx
    subst hgx
    gi_wp2
    exact hK _ _ (World.grownBy_alloc _ _ _) ⟨W.heap.size, heap_alloc_new W _, rfl⟩
  case body =>
    rintro l pre ⟨xv, m⟩ a' W ⟨b7, b4, b5, b6, hB, hne⟩ hG ⟨Bx, h3, rfl⟩ hsp hlt
    obtain ⟨⟨k, hk⟩, -⟩ := hsp
    have hltN : pre.length < N := by rw [HML.out] at hlt; exact hlt
    obtain ⟨y, hy⟩ : ∃ y, ps[pre.length]? = some y := ⟨_, List.getElem?_eq_getElem (by rw [HN.out]; exact hltN)⟩
    have hm : m = y.1.msg := by
      have e1 : (msgsOf (pre ++ [(xv, m)]))[pre.length]? = some m := by
        rw [msgsOf_snoc, ← msgsOf_length pre]; simp
      rw [hk, List.getElem?_take] at e1
      split at e1
      · rw [List.getElem?_map, List.getElem?_map, hy] at e1
        simpa using e1.symm
      · cases e1
    subst hm
    have hRW := HRR.out.below hB
    have hqW := (hB.block q hqlt).trans HQ1.out
    obtain ⟨-, c1, -⟩ := RB.cells hqW
    obtain ⟨g, rfl, _, hglt, hnc, e0, e1, e2, hOy, _⟩ := hRW.cell HN.out hy
    have hG' : Given W w2.heap.size xv (bytesOf y.1.msg.s) := hG
    obtain ⟨gx, cx, hgx, _⟩ := hG'.own
    subst hgx
    obtain ⟨⟨S, D, bs⟩, u⟩ := y
    simp only at e0 e1 e2 hOy
    obtain ⟨Au, cu, rfl⟩ := hOy.bytes.form
    have hbs : bytesOf (Mail3.msg ⟨S, D, bs⟩).s = bs := bytesOf_str hOy.2
    rw [hbs] at hG'
    have cS := fun d os => CallsIn.inRound l ((callsIn_wide (n := n - 1 - 1 - 1)).2 (Calls.regrown_of (d := d) (os := os) (refSame_calls ⟨S, D, bs⟩ ⟨S, D, bs⟩ _ _ (grow (redrawn W d) os) (MailIs.on ⟨_, rfl, hG'.bytes⟩ (below_regrown W d os)) (MailIs.on ⟨_, rfl, hOy.bytes⟩ (below_regrown W d os)))))
    rw [sameB_self] at cS
    obtain ⟨t0, t1, t2, -⟩ := h3.cells
    simp only [Mail3.msg] at t0 t1
    have t2' : W.cell? ⟨Bx, 2, none⟩ = some (.slice (some ⟨gx, 0, none⟩) bs.length cx) := by rw [← hbs]; exact t2
    obtain ⟨L, hL⟩ : ∃ L, bs.length = L := ⟨_, rfl⟩
    rw [hL] at t2' e2 cS
    have T0 := cell_regrown t0
    have T1 := cell_regrown t1
    have T2 := cell_regrown t2'
    have E0 := cell_regrown e0
    have E1 := cell_regrown e1
    have E2 := cell_regrown e2
    have C1 := cell_regrown c1
    have X4 := cell_regrown b4.cell
    have X7 := cell_regrown b7.cell
    have CS := Lib.hid cS
    have hjN : decide (N ≤ pre.length) = false := by rw [decide_eq_false_iff_not]; omega
    have hjI : (pre.length : Int) < (N : Int) := by omega
    have hjNn : ¬ N ≤ pre.length := by omega
    have H7 := Lib.hid b7
    have H4 := Lib.hid b4
    have H5 := Lib.hid b5
    have H6 := Lib.hid b6
    have HB := Lib.hid hB
    have HNE := Lib.hid hne
    have hsW := hB.size
    have h1n : 1 ≤ n - 1 - 1 := by omega
    have hmix : Try.prog.follows .mixedOrders = true := by kernel_rfl
    clear b7 b4 b5 b6 hB hne hG hG' hk hy hRW hqW hOy hbs hL cS h3 t2
    simp only [Mail3.msg]
    gi_wp2_with fail
    refine wpIn_region_round_below (by kernel_rfl) (by kernel_rfl) (by kernel_rfl) ?_
    repeat (gi_big_quiet_step (exact CS.out _ _))
    refine wpQuietIn_nil ?_
    intro w' hw'
    obtain ⟨⟨d, os⟩, rfl⟩ := hw'
    have hBW := below_regrown W d os
    have H7 : Hid (Boxed (grow (redrawn W d) os) (w.heap.size + 1 + 1 + 1) 3 (.int .i64 (pre.length : Nat))) := (hBW.block _ H7.out.lt).trans H7.out
    have H4 : Hid (Boxed (grow (redrawn W d) os) w.heap.size 28 (.pointer (some ⟨q, 0, none⟩))) := (hBW.block _ H4.out.lt).trans H4.out
    have H5 : Hid (Boxed (grow (redrawn W d) os) (w.heap.size + 1) 3 (.int .i64 most)) := (hBW.block _ H5.out.lt).trans H5.out
    have H6 : Hid (Boxed (grow (redrawn W d) os) (w.heap.size + 1 + 1) 4 (.bool false)) := (hBW.block _ H6.out.lt).trans H6.out
    have HBW := Lib.hid hBW
    clear CS T0 T1 T2 E0 E1 E2 C1 X4 X7 hBW
    generalize grow (redrawn W d) os = W2 at HBW H4 H5 H6 H7 ⊢
    have c7 := H7.out.cell
    have c5 := H5.out.cell
    have f7 := H7.out.frozen
    have h57 : (w.heap.size + 1 + 1 + 1) ≠ w.heap.size + 1 := by omega
    have HFRM : Hid (∀ v, KeepsOthers W (W2.setCell ⟨w.heap.size + 1 + 1 + 1, 0, none⟩ v) ∧ KM w.heap.size W (W2.setCell ⟨w.heap.size + 1 + 1 + 1, 0, none⟩ v) ∧ Boxed (W2.setCell ⟨w.heap.size + 1 + 1 + 1, 0, none⟩ v) (w.heap.size + 1 + 1 + 1) 3 v ∧ Boxed (W2.setCell ⟨w.heap.size + 1 + 1 + 1, 0, none⟩ v) w.heap.size 28 (.pointer (some ⟨q, 0, none⟩)) ∧ Boxed (W2.setCell ⟨w.heap.size + 1 + 1 + 1, 0, none⟩ v) (w.heap.size + 1) 3 (.int .i64 most) ∧ Boxed (W2.setCell ⟨w.heap.size + 1 + 1 + 1, 0, none⟩ v) (w.heap.size + 1 + 1) 4 (.bool false) ∧ Below w.heap.size w (W2.setCell ⟨w.heap.size + 1 + 1 + 1, 0, none⟩ v)) := fun v =>
      ⟨(show KeepsOthers W W2 from ⟨HBW.out.size, fun k o hk _ => (HBW.out.block k (lt_of_at hk)).trans hk⟩).trans (KeepsOthers.setCell _ _ _),
        ((Frm.of_below HBW.out hsW).set (S := notPost) H7.out (by decide) (by omega) (Nat.le_trans hsW HBW.out.size) v),
        H7.out.set v, H4.out.other (by omega) v, H5.out.other (by omega) v, H6.out.other (by omega) v,
        (HB.out.trans (HBW.out.mono hsW)).setCell (p := ⟨w.heap.size + 1 + 1 + 1, 0, none⟩) (by show w.heap.size ≤ w.heap.size + 1 + 1 + 1; omega) v⟩
    have hpl : ∀ z : Piece, (((pre ++ [z]).length : Nat) : Int) = (pre.length : Int) + 1 := fun z => by rw [List.length_append]; simp
    by_cases hms : (pre.length : Int) + 1 = most
    · subst hms
      gi_wp2_with fail
      obtain ⟨k1, k2, k3, k4, k5, k6, k7⟩ := HFRM.out (.int .i64 ((pre.length : Int) + 1))
      exact ⟨k1, by rw [hpl]; exact k3, k4, k5, k6, k7, hpl _, rfl⟩
    · have hne1 : ((pre.length : Int) + 1 == most) = false := by rw [beq_eq_false_iff_ne]; exact hms
      gi_wp2_with fail
      obtain ⟨k1, k2, k3, k4, k5, k6, k7⟩ := HFRM.out (.int .i64 ((pre.length : Int) + 1))
      exact ⟨k1, k2, by rw [hpl]; exact k3, k4, k5, k6, k7, by rw [hpl]; exact hms⟩
  case done =>
    rintro D ys W hD ⟨hys, -⟩ ⟨b7, b4, b5, b6, hB, hne⟩ hK
    have hyl : ys.length = N := by rw [← msgsOf_length, hys]; exact HML.out
    rw [hyl] at b7
    have hsW := hB.size
    have hqW : RB W q nodes2 _ := (hB.block q hqlt).trans HQ1.out
    obtain ⟨-, c1, -⟩ := RB.cells hqW
    have hql : q < W.heap.size := by omega
    have CL : Hid (∀ W' : World, Below w.heap.size w W' → Calls Try.prog 21 #[.pointer (some ⟨p, 0, none⟩)] W' fun e W => e = .returned (.int .i64 (N : Nat)) ∧ W' = W) := fun W' h => by
      have := len_calls _ _ _ _ W' (HP.out.below h)
      rw [HML.out] at this
      exact this
    have c4 := b4.cell
    have c7 := b7.cell
    have c5 := b5.cell
    have c6 := b6.cell
    have f6 := b6.frozen
    have l7 := b7.lt
    have HK := Lib.hid hK
    have HB := Lib.hid hB
    have cL := fun d os => Calls.regrown_of (d := d) (os := os) ((CL.out (grow (redrawn W d) os) (hB.trans ((below_regrown W d os).mono hsW))).mono fun e W' ⟨he, hw⟩ => ⟨he, hw ▸ Below.refl _ _⟩)
    have CL2 := Lib.hid cL
    have q4 := cell_regrown c4
    have q7 := cell_regrown c7
    have q5 := cell_regrown c5
    have q1 := cell_regrown c1
    have H6 := Lib.hid b6
    clear hqW hK hB b4 b5 b6 b7 hys cL CL
    gi_wp2_with fail
    refine wpIn_wide.2 (opaque_post ?_)
    intro QQ hQQ
    have HQQ := Lib.hid hQQ
    clear hQQ
    refine wp_region_quiet_tail (C := fun w' => ∃ p : Regrown, w' = grow (redrawn W p.d) p.os) 22 (by kernel_rfl) (by kernel_rfl) ⟨⟨W.drawn + 1, #[]⟩, by rw [grow_empty]; rfl⟩ ?_
    simp only [List.take_succ_cons, List.take_zero, List.drop_succ_cons, List.drop_zero]
    repeat (go_big_quiet_step (exact CL2.out _ _))
    refine wpQuiet_nil ?_
    intro wq hq
    obtain ⟨⟨dq, osq⟩, rfl⟩ := hq
    have hBq := below_regrown W dq osq
    have H6 : Hid (Boxed (grow (redrawn W dq) osq) (w.heap.size + 1 + 1) 4 (.bool false)) := (hBq.block _ H6.out.lt).trans H6.out
    have HK : Hid ((grow (redrawn W dq) osq).heap[D]? = some (.deferred (some []))) := (hBq.block _ (lt_of_at HK.out)).trans HK.out
    have HB : Hid (Below w.heap.size w (grow (redrawn W dq) osq)) := HB.out.trans (hBq.mono hsW)
    clear hBq CL2 q4 q7 q5 q1
    generalize grow (redrawn W dq) osq = wq at H6 HK HB ⊢
    have f6 := H6.out.frozen
    have c6 := H6.out.cell
    have HE : Hid (Boxed (wq.setCell ⟨w.heap.size + 1 + 1, 0, none⟩ (.bool true)) (w.heap.size + 1 + 1) 4 (.bool true) ∧ Below w.heap.size w (wq.setCell ⟨w.heap.size + 1 + 1, 0, none⟩ (.bool true)) ∧ (wq.setCell ⟨w.heap.size + 1 + 1, 0, none⟩ (.bool true)).heap[D]? = some (.deferred (some []))) :=
      ⟨H6.out.set _, HB.out.setCell (p := ⟨w.heap.size + 1 + 1, 0, none⟩) (by show w.heap.size ≤ w.heap.size + 1 + 1; omega) _, (KeepsOthers.setCell _ _ _).same D _ HK.out rfl⟩
    go_wp2_with fail
    refine HQQ.out _ _ ?_
    gi_wp2_with fail
    obtain ⟨k1, k2, k3⟩ := HE.out
    refine ⟨by simp, .inl ⟨_, _, rfl, run_takeDeferred k3, ?_⟩⟩
    have k4 : Boxed ((wq.setCell ⟨w.heap.size + 1 + 1, 0, none⟩ (.bool true)).putObj D (.deferred none)) (w.heap.size + 1 + 1) 4 (.bool true) := (World.putObj_heap_other (by omega)).trans k1
    have k5 := k2.trans (belowK_b (w := w) (Nat.le_refl _) _ D _ (.deferred none) (by omega) k3 rfl rfl)
    have k6 := k4.cell
    generalize (wq.setCell ⟨w.heap.size + 1 + 1, 0, none⟩ (.bool true)).putObj D (.deferred none) = wz at k5 k6 ⊢
    exact ⟨.bool true, by simp [results, Try.results20, go_sem, k6], rfl, k5⟩
  case stop =>
    rintro D c pre W hD - ⟨b7, b4, b5, b6, hB, hme, rfl⟩ hK
    have hsW := hB.size
    have hqW : RB W q nodes2 _ := (hB.block q hqlt).trans HQ1.out
    obtain ⟨-, c1, -⟩ := RB.cells hqW
    have hql : q < W.heap.size := by omega
    by_cases hpN : pre.length = N
    · rw [hpN] at b7
      have CL : Hid (∀ W' : World, Below w.heap.size w W' → Calls Try.prog 21 #[.pointer (some ⟨p, 0, none⟩)] W' fun e W => e = .returned (.int .i64 (N : Nat)) ∧ W' = W) := fun W' h => by
        have := len_calls _ _ _ _ W' (HP.out.below h)
        rw [HML.out] at this
        exact this
      have c4 := b4.cell
      have c7 := b7.cell
      have c5 := b5.cell
      have c6 := b6.cell
      have f6 := b6.frozen
      have l7 := b7.lt
      have HK := Lib.hid hK
      have HB := Lib.hid hB
      have cL := fun d os => Calls.regrown_of (d := d) (os := os) ((CL.out (grow (redrawn W d) os) (hB.trans ((below_regrown W d os).mono hsW))).mono fun e W' ⟨he, hw⟩ => ⟨he, hw ▸ Below.refl _ _⟩)
      have CL2 := Lib.hid cL
      have q4 := cell_regrown c4
      have q7 := cell_regrown c7
      have q5 := cell_regrown c5
      have q1 := cell_regrown c1
      have H6 := Lib.hid b6
      clear hqW hK hB b4 b5 b6 b7 cL CL
      gi_wp2_with fail
      refine wpIn_wide.2 (opaque_post ?_)
      intro QQ hQQ
      have HQQ := Lib.hid hQQ
      clear hQQ
      refine wp_region_quiet_tail (C := fun w' => ∃ p : Regrown, w' = grow (redrawn W p.d) p.os) 22 (by kernel_rfl) (by kernel_rfl) ⟨⟨W.drawn + 1, #[]⟩, by rw [grow_empty]; rfl⟩ ?_
      simp only [List.take_succ_cons, List.take_zero, List.drop_succ_cons, List.drop_zero]
      repeat (go_big_quiet_step (exact CL2.out _ _))
      refine wpQuiet_nil ?_
      intro wq hq
      obtain ⟨⟨dq, osq⟩, rfl⟩ := hq
      have hBq := below_regrown W dq osq
      have H6 : Hid (Boxed (grow (redrawn W dq) osq) (w.heap.size + 1 + 1) 4 (.bool false)) := (hBq.block _ H6.out.lt).trans H6.out
      have HK : Hid ((grow (redrawn W dq) osq).heap[D]? = some (.deferred (some []))) := (hBq.block _ (lt_of_at HK.out)).trans HK.out
      have HB : Hid (Below w.heap.size w (grow (redrawn W dq) osq)) := HB.out.trans (hBq.mono hsW)
      clear hBq CL2 q4 q7 q5 q1
      generalize grow (redrawn W dq) osq = wq at H6 HK HB ⊢
      have f6 := H6.out.frozen
      have c6 := H6.out.cell
      have HE : Hid (Boxed (wq.setCell ⟨w.heap.size + 1 + 1, 0, none⟩ (.bool true)) (w.heap.size + 1 + 1) 4 (.bool true) ∧ Below w.heap.size w (wq.setCell ⟨w.heap.size + 1 + 1, 0, none⟩ (.bool true)) ∧ (wq.setCell ⟨w.heap.size + 1 + 1, 0, none⟩ (.bool true)).heap[D]? = some (.deferred (some []))) :=
        ⟨H6.out.set _, HB.out.setCell (p := ⟨w.heap.size + 1 + 1, 0, none⟩) (by show w.heap.size ≤ w.heap.size + 1 + 1; omega) _, (KeepsOthers.setCell _ _ _).same D _ HK.out rfl⟩
      go_wp2_with fail
      refine HQQ.out _ _ ?_
      gi_wp2_with fail
      obtain ⟨k1, k2, k3⟩ := HE.out
      refine ⟨by simp, .inl ⟨_, _, rfl, run_takeDeferred k3, ?_⟩⟩
      have k4 : Boxed ((wq.setCell ⟨w.heap.size + 1 + 1, 0, none⟩ (.bool true)).putObj D (.deferred none)) (w.heap.size + 1 + 1) 4 (.bool true) := (World.putObj_heap_other (by omega)).trans k1
      have k5 := k2.trans (belowK_b (w := w) (Nat.le_refl _) _ D _ (.deferred none) (by omega) k3 rfl rfl)
      have k6 := k4.cell
      generalize (wq.setCell ⟨w.heap.size + 1 + 1, 0, none⟩ (.bool true)).putObj D (.deferred none) = wz at k5 k6 ⊢
      exact ⟨.bool true, by simp [results, Try.results20, go_sem, k6], rfl, k5⟩
    · have hpI : ((pre.length : Int) == (N : Int)) = false := by rw [beq_eq_false_iff_ne]; omega
      have hpD : decide ((pre.length : Int) = (N : Int)) = false := by rw [decide_eq_false_iff_not]; omega
      subst hme
      have CL : Hid (∀ W' : World, Below w.heap.size w W' → Calls Try.prog 21 #[.pointer (some ⟨p, 0, none⟩)] W' fun e W => e = .returned (.int .i64 (N : Nat)) ∧ W' = W) := fun W' h => by
        have := len_calls _ _ _ _ W' (HP.out.below h)
        rw [HML.out] at this
        exact this
      have c4 := b4.cell
      have c7 := b7.cell
      have c5 := b5.cell
      have c6 := b6.cell
      have f6 := b6.frozen
      have l7 := b7.lt
      have HK := Lib.hid hK
      have HB := Lib.hid hB
      have cL := fun d os => Calls.regrown_of (d := d) (os := os) ((CL.out (grow (redrawn W d) os) (hB.trans ((below_regrown W d os).mono hsW))).mono fun e W' ⟨he, hw⟩ => ⟨he, hw ▸ Below.refl _ _⟩)
      have CL2 := Lib.hid cL
      have q4 := cell_regrown c4
      have q7 := cell_regrown c7
      have q5 := cell_regrown c5
      have q1 := cell_regrown c1
      have H6 := Lib.hid b6
      clear hqW hK hB b4 b5 b6 b7 cL CL
      gi_wp2_with fail
      refine wpIn_wide.2 (opaque_post ?_)
      intro QQ hQQ
      have HQQ := Lib.hid hQQ
      clear hQQ
      refine wp_region_quiet_tail (C := fun w' => ∃ p : Regrown, w' = grow (redrawn W p.d) p.os) 22 (by kernel_rfl) (by kernel_rfl) ⟨⟨W.drawn + 1, #[]⟩, by rw [grow_empty]; rfl⟩ ?_
      simp only [List.take_succ_cons, List.take_zero, List.drop_succ_cons, List.drop_zero]
      repeat (go_big_quiet_step (exact CL2.out _ _))
      refine wpQuiet_nil ?_
      intro wq hq
      obtain ⟨⟨dq, osq⟩, rfl⟩ := hq
      have hBq := below_regrown W dq osq
      have H6 : Hid (Boxed (grow (redrawn W dq) osq) (w.heap.size + 1 + 1) 4 (.bool false)) := (hBq.block _ H6.out.lt).trans H6.out
      have HK : Hid ((grow (redrawn W dq) osq).heap[D]? = some (.deferred (some []))) := (hBq.block _ (lt_of_at HK.out)).trans HK.out
      have HB : Hid (Below w.heap.size w (grow (redrawn W dq) osq)) := HB.out.trans (hBq.mono hsW)
      clear hBq CL2 q4 q7 q5 q1
      generalize grow (redrawn W dq) osq = wq at H6 HK HB ⊢
      have f6 := H6.out.frozen
      have c6 := H6.out.cell
      have HE : Hid (Boxed (wq.setCell ⟨w.heap.size + 1 + 1, 0, none⟩ (.bool true)) (w.heap.size + 1 + 1) 4 (.bool true) ∧ Below w.heap.size w (wq.setCell ⟨w.heap.size + 1 + 1, 0, none⟩ (.bool true)) ∧ (wq.setCell ⟨w.heap.size + 1 + 1, 0, none⟩ (.bool true)).heap[D]? = some (.deferred (some []))) :=
        ⟨H6.out.set _, HB.out.setCell (p := ⟨w.heap.size + 1 + 1, 0, none⟩) (by show w.heap.size ≤ w.heap.size + 1 + 1; omega) _, (KeepsOthers.setCell _ _ _).same D _ HK.out rfl⟩
      go_wp2_with fail
      refine HQQ.out _ _ ?_
      gi_wp2_with fail
      obtain ⟨k1, k2, k3⟩ := HE.out
      refine ⟨by simp, .inl ⟨_, _, rfl, run_takeDeferred k3, ?_⟩⟩
      have k4 : Boxed ((wq.setCell ⟨w.heap.size + 1 + 1, 0, none⟩ (.bool true)).putObj D (.deferred none)) (w.heap.size + 1 + 1) 4 (.bool true) := (World.putObj_heap_other (by omega)).trans k1
      have k5 := k2.trans (belowK_b (w := w) (Nat.le_refl _) _ D _ (.deferred none) (by omega) k3 rfl rfl)
      have k6 := k4.cell
      generalize (wq.setCell ⟨w.heap.size + 1 + 1, 0, none⟩ (.bool true)).putObj D (.deferred none) = wz at k5 k6 ⊢
      exact ⟨.bool true, by simp [results, Try.results20, go_sem, k6], rfl, k5⟩

theorem told_calls (base p q : Nat) (nodes nodes2 : Int) (l : List Mail3) (w : World) (hP : Post w base p nodes (l.map Mail3.msg)) (hR : RefPost w base q nodes2 l) (hroom : l.length ≤ 1000) (hsz : ∀ m ∈ l, m.bs.length ≤ 65536) (most : Int) (hmost : most = -1 ∨ 1 ≤ most) :
    Calls Try.prog 20 #[.pointer (some ⟨p, 0, none⟩), .pointer (some ⟨q, 0, none⟩), .int .i64 most] w fun e W => e = .returned (.bool true) ∧ Below w.heap.size w W :=
  callsIn_wide.1 (told_in 9 (by omega) base p q nodes nodes2 l w hP hR hroom hsz most hmost)

end Go.Proofs.Ytjcgkjjomiapoaa.Mail
