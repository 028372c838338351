/-
  The contract of Cut, the project's: the payloads that are told from the front, each in new memory, and the place where they end.
-/
import Derived.Test.YtmflcpkkeejjpaaDoorFrameAll
import Derived.Maps.AppendAt
namespace Go.Proofs.YtmflcpkkeejjpaaDoor.Frame
open Go.RowKit Go.Shelf Go.Proofs.YtmflcpkkeejjpaaDoor.Law Go.Proofs.YtmflcpkkeejjpaaDoor.Crc

attribute [local go_sem] Oper.semAt_some

theorem _root_.Go.Proofs.YtmflcpkkeejjpaaDoor.Law.OwnB.cells_of {W : World} {base g : Nat} {e e' : TypeId} {v : Value} {bs : List Nat} {cur : Array Value} {fz : Nat × Nat} (h : OwnB W base e v bs) (hg : W.heap[g]? = some (.cells cur e' fz)) (hne : e ≠ e') : v.ownBlock = none ∨ v.ownBlock ≠ some g :=
  h.other hg fun c f e'' => by
    injection e'' with _ h2 _
    exact hne h2.symm

/-- A store into a box between a and lo. -/
theorem Keeps.setBox {a lo hi B : Nat} (W : World) (ha : a ≤ B) (hb : B < lo) (u : Value) : Keeps a lo hi W (W.setCell ⟨B, 0, none⟩ u) :=
  ⟨(Below.refl a W).setCell (p := ⟨B, 0, none⟩) ha u, fun k h1 _ => Below.heap_setCell _ _ _ k (fun e => by simp at e; omega)⟩
theorem Keeps.drew {a lo hi : Nat} {W W' : World} (h : Keeps a lo hi W W') : Keeps a lo hi W W'.drew := ⟨h.1.drew, h.2⟩
theorem Keeps.refl (a lo hi : Nat) (W : World) : Keeps a lo hi W W := ⟨Below.refl _ _, fun _ _ _ => rfl⟩

/-- 'out = append(out, x)', out in a box, the row's blocks at or beyond hi. -/
theorem collected {W w1 : World} {a lo hi B : Nat} {t e : TypeId} {v v' : Value} {k m : Nat} {xs ys : List Value} {tmp : Obj}
    (hv : Boxed W B t v) (hte : t ≠ e) (hrow : W.ownsRow hi e 1 v k xs) (hhi : hi ≤ W.heap.size) (ha : a ≤ B) (hb : B < lo) (hlo : lo ≤ hi)
    (hown' : w1.ownsRow hi e 1 v' m ys) (hgrow : (W.alloc tmp).grownBy w1 v.ownBlock) :
    Boxed w1 B t v ∧ Boxed (w1.setCell ⟨B, 0, none⟩ v') B t v' ∧ (w1.setCell ⟨B, 0, none⟩ v').ownsRow hi e 1 v' m ys ∧ KeepsOthers W (w1.setCell ⟨B, 0, none⟩ v') ∧ Keeps a lo hi W (w1.setCell ⟨B, 0, none⟩ v') ∧
      (∀ B' t' u, Boxed W B' t' u → t' ≠ e → B' ≠ B → Boxed (w1.setCell ⟨B, 0, none⟩ v') B' t' u) ∧
      (∀ base b x bs, OwnB W base b x bs → b ≠ e → b ≠ t → OwnB (w1.setCell ⟨B, 0, none⟩ v') base b x bs) := by
  have hv1 : Boxed w1 B t v := (hv.alloc tmp).kept hgrow (hv.not_row hte hrow)
  have hrow' := hrow.alloc tmp
  refine ⟨hv1, hv1.set v', hown'.kept (grownBy_setCell' w1 B v') (.inr (hv1.not_row hte hown').symm), ?_, ?_, ?_, ?_⟩
  · refine ((KeepsOthers.alloc W tmp).trans (KeepsOthers.of_grownBy hgrow fun j o ej hj => ?_)).trans (KeepsOthers.setCell _ _ _)
    rcases hrow'.2 with ⟨rfl, _⟩ | ⟨g, cap, cur, rfl, _, hgb, _⟩
    · simp [Value.ownBlock] at ej
    · obtain rfl : g = j := by simpa [Value.ownBlock] using ej
      rw [hgb] at hj; cases hj; rfl
  · have hblk : ∀ k, v.ownBlock = some k → hi ≤ k := fun k hk => (hrow.lt k hk).1
    have h1 : Keeps a lo hi W w1 := by
      refine ⟨((Below.refl a W).alloc (by omega) tmp).grown hgrow (by simp; omega) fun j ej => by have := hblk j ej; omega, fun k h1 h2 => ?_⟩
      rw [hgrow.block k (by simp; omega) (fun e' => by have := hblk k e'.symm; omega)]
      exact Below.heap_alloc _ _ _ (by omega)
    exact h1.trans (Keeps.setBox w1 ha hb v')
  · intro B' t' u h1 h2 h3
    exact (((h1.alloc tmp).kept hgrow ((h1.alloc tmp).not_row h2 hrow')).kept (grownBy_setCell' w1 B v') (fun e' => h3 (by cases e'; rfl)))
  · intro base b x bs h1 h2 h3
    have h4 : OwnB w1 base b x bs := by
      refine (h1.alloc tmp).kept hgrow ?_
      rcases hrow'.2 with ⟨rfl, _⟩ | ⟨g, cap, cur, rfl, _, hgb, _⟩
      · cases hx : x.ownBlock with
        | none => exact .inl rfl
        | some y => exact .inr (by simp [Value.ownBlock])
      · exact (h1.alloc tmp).cells_of hgb h2
    exact h4.kept (grownBy_setCell' w1 B v') (h4.cells_of hv1 h3)

def total (ps : List Piece) : Nat := (ps.map fun x => x.2.length + 12).sum
theorem total_snoc (ps : List Piece) (x : Piece) : total (ps ++ [x]) = total ps + (x.2.length + 12) := by simp [total]
theorem told_total {bs : List Nat} {qs : List (List Nat)} {k : Nat} (h : Told bs qs k) : (qs.map fun p => p.length + 12).sum = k := by
  induction h with
  | none => rfl
  | @more ps at0 p to _ h ih =>
    obtain ⟨h1, h2, h3, -, -⟩ := readN_ok (r := bs.drop at0) (at0 := at0) (by show (nextN bs at0).2.2 = 0; rw [h])
    have h4 : nextN bs at0 = _ := h1
    rw [h] at h4
    simp only [Prod.mk.injEq, and_true] at h4
    obtain ⟨h5, h6⟩ := h4
    have hl : p.length = num4 (bs.drop at0) := by rw [h5, List.length_take, List.length_drop]; exact Nat.min_eq_left (by omega)
    simp only [List.map_append, List.sum_append, List.map_cons, List.map_nil, List.sum_cons, List.sum_nil]
    omega
theorem total_told {bs : List Nat} {ps : List Piece} {k : Nat} (h : Told bs (bytesOf ps) k) : total ps = k := by
  rw [← told_total h]; simp [total, bytesOf, List.map_map, Function.comp_def]

theorem row_lower {W : World} {base b' n : Nat} {e : TypeId} {size : Nat} {v : Value} {xs : List Value} (h : W.ownsRow base e size v n xs) (hb : b' ≤ base) : W.ownsRow b' e size v n xs := by
  refine ⟨h.1, ?_⟩
  rcases h.2 with h0 | ⟨g, cap, cur, rfl, h1, h2⟩
  · exact .inl h0
  · exact .inr ⟨g, cap, cur, rfl, by omega, h2⟩
theorem row_form {W : World} {base n : Nat} {e : TypeId} {size : Nat} {v : Value} {xs : List Value} (h : W.ownsRow base e size v n xs) : ∃ A c, v = .slice A n c := by
  rcases h.2 with ⟨rfl, h0⟩ | ⟨g, cap, cur, rfl, _⟩
  · exact ⟨none, 0, by rw [h0]⟩
  · exact ⟨_, _, rfl⟩

/-- What Cut hands back. -/
def CutSays (w : World) (bs : List Nat) (e : Ending) (W : World) : Prop :=
  ∃ v ys k, e = .returned (.tuple #[v, .int .i64 (k : Nat)]) ∧ (Told bs (bytesOf ys) k ∧ Done bs k) ∧ W.ownsRow w.heap.size 22 1 v ys.length (ys.map (·.1)) ∧ (∀ x ∈ ys, Fine w.heap.size x W) ∧ Below w.heap.size w W

theorem info_row : (Tryd.prog.info? 22).map (fun i => (i.zero, i.size, i.bytes)) = some (some (.slice none 0 0), 1, 24) := by kernel_rfl

theorem forall_own (base : Nat) : Own (fun (ps : List Piece) W => ∀ x ∈ ps, Fine base x W) :=
  fun _ A B row hs hg hr x hx => fine_own base x A B row (hs x hx) hg hr
theorem size_own {β : Type} (k : Nat) : Own (fun (_ : β) W => k ≤ W.heap.size) := fun _ _ _ _ hs hg _ => Nat.le_trans hs hg.size
theorem total_le (base : Nat) (W : World) (ps : List Piece) (h : ∀ x ∈ ps, Fine base x W) : total ps ≤ 65548 * ps.length := by
  induction ps with
  | nil => simp [total]
  | cons x ps ih =>
    have h1 := (h x (by simp)).2
    have h2 := ih (fun y hy => h y (by simp [hy]))
    simp only [total, List.map_cons, List.sum_cons, List.length_cons] at h2 ⊢
    omega

theorem ret_cut {v : Value} {a b : Int} (h : a = b) : Ending.returned (.tuple #[v, .int .i64 a]) = .returned (.tuple #[v, .int .i64 b]) := by rw [h]

set_option maxRecDepth 100000 in
set_option maxHeartbeats 8000000 in
theorem cut_in (n : Nat) (hn : 5 ≤ n) (sv : Value) (bs : List Nat) (hsmall : bs.length ≤ 16777216) (w : World) (hT : Tab w) (hI : Bytes w.heap.size w sv bs) :
    CallsIn Fence.wide n Tryd.prog 16 #[sv] w (CutSays w bs) := by
  have h1 : 1 ≤ n := by omega
  obtain ⟨i0, hi, hz0, hz1, hz2⟩ := info_parts info_row
  obtain ⟨A, cap, rfl⟩ := hI.form
  obtain ⟨len, hlen⟩ : ∃ len, bs.length = len := ⟨_, rfl⟩
  rw [hlen] at hI hsmall ⊢
  have HL := Lib.hid hlen
  clear hlen
  refine callsIn_of_wp_marks Tryd.func16 rfl trivial ?_ rfl
  simp only [Tryd.ntmps16, List.size_toArray, List.length_cons, List.length_nil, Nat.reduceAdd, Nat.reduceSub, Array.replicate_succ, Array.replicate_zero, List.push_toArray, List.append_toArray, List.nil_append, List.cons_append]
  obtain ⟨w0, hw0⟩ : ∃ w0, (w.alloc (.cells #[.slice none 0 0] 36)).alloc (.cells #[.int .i64 0] 3) = w0 := ⟨_, rfl⟩
  have hs0 : w0.heap.size = w.heap.size + 2 := by rw [← hw0]; simp
  have hB0 : Below w.heap.size w w0 := by rw [← hw0]; exact ((Below.refl _ w).alloc (Nat.le_refl _) _).alloc (by simp) _
  have b4 : Boxed w0 w.heap.size 36 (.slice none 0 0) := by rw [← hw0]; exact (Boxed.new w _ _).alloc _
  have b5 : Boxed w0 (w.heap.size + 1) 3 (.int .i64 0) := by
    rw [← hw0]; have := Boxed.new (w.alloc (.cells #[.slice none 0 0] 36)) 3 (.int .i64 0); rwa [World.size_alloc] at this
  have ca := all_in (n - 1) (by omega) (.slice A len cap) bs (by rw [HL.out]; omega) w0 (hI.on hB0)
  have CA := Lib.hid ca
  have HT := Lib.hid hT
  have HI := Lib.hid hI
  have HW0 := Lib.hid hw0
  have HS0 := Lib.hid hs0
  clear ca hT hI hw0 hs0
  gi_wp2_with fail
  refine ⟨trivial, ?_⟩
  rw [HW0.out]
  refine CA.out.mono ?_
  rintro e w1 ⟨v1, Bx, rfl, hbx, hO1, hlo, hB1⟩
  have hT1 := (HT.out.below hB0).below hB1
  have hBw := hB0.trans (hB1.mono hB0.size)
  have hRd : Reads w.heap.size w0.heap.size w1.heap.size Bx v1 bs w1 := ⟨hT1, hbx, hO1, Nat.le_refl _, HT.out.lt, hlo, hbx.lt, fun k hk => (hO1.1.lt k hk).2⟩
  have b4' : Boxed w1 w.heap.size 36 (.slice none 0 0) := (hB1.block _ b4.lt).trans b4
  have b5' : Boxed w1 (w.heap.size + 1) 3 (.int .i64 0) := (hB1.block _ b5.lt).trans b5
  have hs1 : w.heap.size + 2 ≤ w1.heap.size := by have := hB1.size; have := HS0.out; omega
  have hs0' : w0.heap.size = w.heap.size + 2 := HS0.out
  have HRd := Lib.hid hRd
  have B4' := Lib.hid b4'
  have B5' := Lib.hid b5'
  have HSZ := Lib.hid hs0'
  clear b4 b5 hbx hO1 hT1 CA hRd b4' b5' hs0'
  gi_wp2_with fail
  have hs0' := HSZ.out
  refine wpIn_rangeFunc_told rfl h1 (gf := 33) (lb := #[.pointer (some ⟨Bx, 0, none⟩)]) rfl trivial (enters_of Tryd.func33 (by kernel_rfl) rfl)
    (all_stops (n - 1) (by omega) w.heap.size w0.heap.size Bx v1 bs (by rw [HL.out]; omega) w1 HRd.out) Keeps.trans (keeps_b (by omega) (Nat.le_refl _)) (Below.refl _ _) (fun _ => rfl)
    (fun pre W => ((∃ v, Boxed W w.heap.size 36 v ∧ W.ownsRow w1.heap.size 22 1 v pre.length (pre.map (·.1)) ∧ True) ∧ Boxed W (w.heap.size + 1) 3 (.int .i64 (total pre : Nat))) ∧ ((∀ x ∈ pre, Fine w1.heap.size x W) ∧ (Below w.heap.size w W ∧ w1.heap.size ≤ W.heap.size)))
    (fun _ _ _ => False)
    (OwnFrom.and (OwnFrom.and ((holdsRow_own w1.heap.size w.heap.size 36 22 1 (fun pre : List Piece => pre.length) (fun pre : List Piece => pre.map (·.1)) (fun _ _ => True)).from _) ((boxed_own (w.heap.size + 1) 3 (fun pre : List Piece => .int .i64 (total pre : Nat))).from _))
      (OwnFrom.and ((forall_own w1.heap.size).from _) (OwnFrom.and (ownFrom_below (Nat.le_refl _) (by omega)) ((size_own w1.heap.size).from _))))
    (fun _ _ _ _ _ hs _ _ => hs)
    (fun x => Own.from (fun _ A B row hs hg hr => fine_own w1.heap.size x A B row hs hg hr) _)
    ⟨⟨⟨_, B4'.out, World.ownsRow_nil _ _ _ _, trivial⟩, B5'.out⟩, (fun x hx => by cases hx), hBw, Nat.le_refl _⟩
    (fun x => { tmps := #[.slice A len cap, undef, .slice none 0 0, .int .i64 0, .pointer (some ⟨w.heap.size, 0, none⟩), .pointer (some ⟨w.heap.size + 1, 0, none⟩), x.1, .slice A len cap, .func (.func 33) #[] #[.pointer (some ⟨Bx, 0, none⟩)], x.1, undef, undef, undef, undef, undef, undef, undef, undef, undef, undef, undef], defers := [] }) ?assign ?body ?done ?stop
  case assign =>
    intro l x W K hK
    gi_wp2
    exact hK
  case body =>
    rintro l pre ⟨xv, xb⟩ W ⟨⟨⟨v, hv, hrow, -⟩, hv5⟩, ⟨hpre, hB, hsz⟩⟩ ⟨hx, hlb⟩ _ hlen
    have hlb : xb.length ≤ 65536 := hlb
    obtain ⟨A2, c2, rfl⟩ := (show OwnB W w1.heap.size 5 xv xb from hx).bytes.form
    have hlenN : pre.length ≤ 1398101 := by rw [HL.out] at hlen; omega
    have htot := total_le _ _ _ hpre
    have hc4 := hv.cell
    have hf4 := hv.frozen
    have hn3 : 1 ≤ n - 1 - 1 := by omega
    have hroomI : (total pre : Int) ≤ 1000000000000 := by omega
    have htx : total (pre ++ [(Value.slice A2 xb.length c2, xb)]) = total pre + (xb.length + 12) := total_snoc _ _
    obtain ⟨T, hT'⟩ : ∃ T, total pre = T := ⟨_, rfl⟩
    rw [hT'] at hv5 hroomI htx
    have HTX := Lib.hid htx
    have HX := Lib.hid hx
    obtain ⟨xl, hxl⟩ : ∃ xl, xb.length = xl := ⟨_, rfl⟩
    rw [hxl] at hlb HTX
    have hxI : (xl : Int) ≤ 65536 := by omega
    have hmix : Tryd.prog.follows .mixedOrders = true := by kernel_rfl
    have HXL := Lib.hid hxl
    rw [hxl]
    clear hT' htx hx htot
    gi_wp2_with (gi_at_builtin; (refine wpListIn_append_own _ rfl _ _ 36 rfl w1.heap.size 22 i0 (.slice none 0 0) 1 24 Tryd.underlying36 hi hz0 hz1 hz2 rfl (by decide) _ _ _ rfl (hrow.alloc _) ⟨W.heap.size, 0, none⟩ 1 1 [.slice A2 xl c2] rfl rfl (cell_one_new _ _ _) (by simp [Value.oneCell']) (by simp only [maxLen]; omega) (by omega) (by simp; omega) ?_); intro v' w5 hown' hgrow _; obtain ⟨g', cap', rfl⟩ := ownsRow_succ hown'; (obtain ⟨k1, k2, k3, k4, k5, k6, k7⟩ := collected (a := w.heap.size) (lo := w0.heap.size) hv (by decide) hrow hsz (Nat.le_refl _) (by omega) (by omega) hown' hgrow); have hc1 := k1.cell; have hf1 := k1.frozen; have hb5 := k6 _ _ _ hv5 (by decide) (by omega); have hc5 := hb5.cell; have hf5 := hb5.frozen)
    have hwr : IntKind.i64.wrap ((T : Int) + ((xl : Int) + 12)) = (T : Int) + ((xl : Int) + 12) := IntWalk.i64_in _ (by omega)
    gi_region_with_o (refine ⟨trivial, ?_⟩; gi_at_call 24; refine (CallsIn.inRound l (callsIn_wide.2 (frameLen_calls xl (by omega) _))).mono ?_; rintro e w' ⟨rfl, rfl⟩)
    all_goals gi_wp2
    all_goals
      have hK2 : Keeps w.heap.size w0.heap.size w1.heap.size W (((w5.setCell ⟨w.heap.size, 0, none⟩ (.slice (some ⟨g', 0, none⟩) (pre.length + 1) cap')).setCell ⟨w.heap.size + 1, 0, none⟩ (.int .i64 ((T : Int) + ((xl : Int) + 12)))).drew) := (k5.trans (Keeps.setBox _ (by omega) (by omega) _)).drew
      have hrow3 := (k3.kept (grownBy_setCell' _ (w.heap.size + 1) (.int .i64 ((T : Int) + ((xl : Int) + 12)))) (.inr (hb5.not_row (by decide) k3).symm)).drew
      have hbox5 : Boxed (((w5.setCell ⟨w.heap.size, 0, none⟩ (.slice (some ⟨g', 0, none⟩) (pre.length + 1) cap')).setCell ⟨w.heap.size + 1, 0, none⟩ (.int .i64 ((T : Int) + ((xl : Int) + 12)))).drew) (w.heap.size + 1) 3 (.int .i64 (total (pre ++ [(Value.slice A2 xl c2, xb)]) : Nat)) := by
        have h := hb5.set (.int .i64 ((T : Int) + ((xl : Int) + 12)))
        rw [HTX.out]
        rw [show ((T + (xl + 12) : Nat) : Int) = (T : Int) + ((xl : Int) + 12) by omega]
        exact h
      have hold : ∀ y, Fine w1.heap.size y W → Fine w1.heap.size y (((w5.setCell ⟨w.heap.size, 0, none⟩ (.slice (some ⟨g', 0, none⟩) (pre.length + 1) cap')).setCell ⟨w.heap.size + 1, 0, none⟩ (.int .i64 ((T : Int) + ((xl : Int) + 12)))).drew) := fun y hy =>
        have h7 := k7 _ _ _ _ hy.1 (by decide) (by decide)
        ⟨(h7.kept (grownBy_setCell' _ _ _) (h7.cells_of hb5 (by decide))).drew, hy.2⟩
      refine ⟨(k4.trans (KeepsOthers.setCell _ _ _)).trans (KeepsOthers.drew _), hK2, ⟨⟨⟨_, k2.other (by omega) _, by simpa using hrow3, trivial⟩, hbox5⟩, fun y hy => ?_, hB.trans hK2.1, Nat.le_trans hsz hK2.1.size⟩⟩
      rcases List.mem_append.1 hy with h | h
      · exact hold y (hpre y h)
      · rw [List.mem_singleton.1 h]
        exact hold _ ⟨by have := HX.out; rw [HXL.out] at this; exact this, by show xb.length ≤ 65536; rw [HXL.out]; exact hlb⟩
  case done =>
    rintro D ys W hD ⟨k, hTo, hDo⟩ ⟨⟨⟨v, hv, hrow, -⟩, hv5⟩, ⟨hys, hB, hsz⟩⟩ hK
    obtain ⟨A3, c3, rfl⟩ := row_form hrow
    have hc4 := hv.cell
    have hc5 := hv5.cell
    have htot := total_told hTo
    rw [htot] at hc5
    have hmix : Tryd.prog.follows .mixedOrders = true := by kernel_rfl
    have HTo := Lib.hid hTo
    have HDo := Lib.hid hDo
    clear htot hTo hDo
    gi_wp2
    gi_quiet (fail)
    gi_wp2
    have hKn : (W.drewN nq).heap[D]? = some (.deferred (some [])) := hK
    refine ⟨by simp, .inl ⟨_, _, rfl, run_takeDeferred hKn, ?_⟩⟩
    have hrow4 := row_lower (ownsRow_putObj (show (W.drewN nq).ownsRow w1.heap.size 22 1 _ ys.length (ys.map (·.1)) from hrow) (.deferred none) hKn rfl) (show w.heap.size ≤ w1.heap.size by omega)
    have hfine : ∀ x ∈ ys, Fine w.heap.size x ((W.drewN nq).putObj D (.deferred none)) := fun x hx =>
      have h := fine_own w1.heap.size x (W.drewN nq) _ (some D) (hys x hx) (grownBy_putObj' (W.drewN nq) D (.deferred none)) (fun r e => by cases e; exact ⟨_, hKn, rfl⟩)
      ⟨h.1.lower (by omega), h.2⟩
    exact ⟨_, results_tmp2 rfl _ _ _, _, ys, k, rfl, ⟨HTo.out, HDo.out⟩, hrow4, hfine, (below_drewN hB nq).trans (belowK_b (w := w) (Nat.le_refl _) (W.drewN nq) D _ _ (by omega) hKn rfl rfl)⟩
  case stop =>
    rintro D c pre W _ _ h _
    exact h.elim

theorem cut_calls (sv : Value) (bs : List Nat) (hsmall : bs.length ≤ 16777216) (w : World) (hT : Tab w) (hI : Bytes w.heap.size w sv bs) :
    Calls Tryd.prog 16 #[sv] w (CutSays w bs) := callsIn_wide.1 (cut_in 9 (by omega) sv bs hsmall w hT hI)

end Go.Proofs.YtmflcpkkeejjpaaDoor.Frame
