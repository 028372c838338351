/-
  The document's post in memory; contracts of millraceref05's own and Send.
-/
import Derived.Test.YtjcgkjjomiapoaaMailLose
import Derived.Test.YtjcgkjjomiapoaaMailNoneLaw
namespace Go.Proofs.Ytjcgkjjomiapoaa.Mail
open Go Go.RowKit Go.Proofs.Ytjcgkjjomiapoaa.Law

def isRef (t : TypeId) : Bool := t == 31 || t == 34

def RB (W : World) (q : Nat) (nodes : Int) (rv : Value) : Prop := W.heap[q]? = some (.cells #[.int .i64 nodes, rv] 31 (0, 0))
theorem RB.lt {W : World} {q : Nat} {nodes : Int} {rv : Value} (h : RB W q nodes rv) : q < W.heap.size := (Array.getElem?_eq_some_iff.1 h).1
theorem RB.cells {W : World} {q : Nat} {nodes : Int} {rv : Value} (h : RB W q nodes rv) : W.cell? ⟨q, 0, none⟩ = some (.int .i64 nodes) ∧ W.cell? ⟨q, 1, none⟩ = some rv ∧ ∀ i, W.frozen? ⟨q, i, none⟩ = false := by
  unfold RB at h
  refine ⟨?_, ?_, fun i => ?_⟩ <;> simp [World.cell?, World.frozen?, h]

/-- A row of messages, each with its data in memory of the call's own. -/
def RowR (W : World) (base : Nat) (rv : Value) (ps : List (Mail3 × Value)) : Prop :=
  W.ownsRow base 34 3 rv ps.length (flatK ps) ∧ ∀ p ∈ ps, OwnB W base 5 p.2 p.1.bs
def RefPost (W : World) (base q : Nat) (nodes : Int) (l : List Mail3) : Prop :=
  base ≤ q ∧ ∃ rv ps, RB W q nodes rv ∧ ps.map (·.1) = l ∧ RowR W base rv ps

theorem ownB_below {W W' : World} {base : Nat} {v : Value} {bs : List Nat} (h : OwnB W base 5 v bs) (hB : Below W.heap.size W W') : OwnB W' base 5 v bs := h.below hB
theorem ownB_frm {S : TypeId → Bool} {B base : Nat} {W W' : World} {v : Value} {xs : List Nat} (h : OwnB W base 5 v xs) (hF : Frm S B W W') (hS : S 5 = false) : OwnB W' base 5 v xs := ⟨row_frm h.1 hF hS, h.2⟩
theorem ownB_lower' {W : World} {base b' : Nat} {e : TypeId} {v : Value} {bs : List Nat} (h : OwnB W base e v bs) (hb : b' ≤ base) : OwnB W b' e v bs := ⟨row_lower h.1 hb, h.2⟩
theorem row_below {W W' : World} {base size n : Nat} {e : TypeId} {v : Value} {xs : List Value} (h : W.ownsRow base e size v n xs) (hB : Below W.heap.size W W') : W'.ownsRow base e size v n xs :=
  h.kept (grown_any hB none) (by cases hv : v.ownBlock <;> simp)
theorem RowR.below {W W' : World} {base : Nat} {rv : Value} {ps : List (Mail3 × Value)} (h : RowR W base rv ps) (hB : Below W.heap.size W W') : RowR W' base rv ps := ⟨row_below h.1 hB, fun p hp => (h.2 p hp).below hB⟩
theorem RefPost.below {W W' : World} {base q : Nat} {nodes : Int} {l : List Mail3} (h : RefPost W base q nodes l) (hB : Below W.heap.size W W') : RefPost W' base q nodes l := by
  obtain ⟨hb, rv, ps, h1, h2, h3⟩ := h
  exact ⟨hb, rv, ps, (hB.block q h1.lt).trans h1, h2, h3.below hB⟩
theorem RefPost.frm {S : TypeId → Bool} {B : Nat} {W W' : World} {base q : Nat} {nodes : Int} {l : List Mail3} (h : RefPost W base q nodes l) (hF : Frm S B W W') (h1 : S 31 = false) (h2 : S 34 = false) (h3 : S 5 = false) : RefPost W' base q nodes l := by
  obtain ⟨hb, rv, ps, h4, h5, h6⟩ := h
  exact ⟨hb, rv, ps, hF.2 q _ _ _ h4 h1, h5, row_frm h6.1 hF h2, fun p hp => ownB_frm (h6.2 p hp) hF h3⟩
theorem RowR.form {W : World} {base : Nat} {rv : Value} {ps : List (Mail3 × Value)} (h : RowR W base rv ps) : ∃ A c, rv = .slice A ps.length c := row_form h.1
theorem RB.ne {W : World} {base q size n : Nat} {nodes : Int} {rv v : Value} {xs : List Value} (h : RB W q nodes rv) (h2 : W.ownsRow base 34 size v n xs) : v.ownBlock ≠ some q := by
  intro e
  rcases h2.2 with ⟨rfl, _⟩ | ⟨g, cap, cur, rfl, _, hg, _⟩
  · cases e
  · simp only [Value.ownBlock, Option.some.injEq] at e
    subst e
    unfold RB at h
    rw [h] at hg
    simp only [Option.some.injEq, Obj.cells.injEq] at hg
    exact absurd hg.2.1 (by decide)

theorem flatK_one : ∀ (l : List (Mail3 × Value)), (∀ p ∈ l, p.2.oneCell' = true) → ∀ u ∈ flatK l, u.oneCell' = true
  | [], _, u, h => by simp [flatK] at h
  | p :: r, hl, u, h => by
    simp only [flatK, List.mem_cons] at h
    rcases h with rfl | rfl | rfl | h
    · rfl
    · rfl
    · exact hl p (by simp)
    · exact flatK_one r (fun x hx => hl x (by simp [hx])) u h

/-- A message that lies in a block is put behind a row. -/
theorem row_append {W : World} {base : Nat} {rv : Value} {ps : List (Mail3 × Value)} (h : RowR W base rv ps) (hbase : base ≤ W.heap.size) (ty : TypeId) (b : Nat) (v : Value) (m : Mail3)
    (hm : W.heap[b]? = some (.cells #[.int .i64 m.src, .int .i64 m.dst, v] 34 (0, 0))) (hO : OwnB W base 5 v m.bs) (hroom : ps.length ≤ 1000000000) :
    ∃ A' c' W', (Builtin.append_ #[29, 29] ty #[rv, .slice (some ⟨b, 0, none⟩) 1 1]).run Try.prog W = .ok (.slice A' (ps.length + 1) c') W' ∧ RowR W' base (.slice A' (ps.length + 1) c') (ps ++ [(m, v)]) ∧ W.grownBy W' rv.ownBlock ∧ Frm isMail base W W' := by
  obtain ⟨i0, hi, hz0, hz1, hz2⟩ := info_parts info_mail
  have hone : v.oneCell' = true := by
    obtain ⟨A, c, rfl⟩ := hO.bytes.form
    rfl
  obtain ⟨v', W', hrun, h3, h4, _, _⟩ := run_append_own_at (P := Try.prog) W base 29 ty 34 i0 _ 3 40 Try.underlying29 hi hz0 hz1 hz2 rfl (by decide) rv ps.length (flatK ps) h.1 ⟨b, 0, none⟩ 1 1 (flatK [(m, v)]) rfl
    (fun j w hw => by
      rw [Addr.add_lit]
      match j, hw with
      | 0, hw => simp [flatK] at hw; subst hw; simp [World.cell?, hm]
      | 1, hw => simp [flatK] at hw; subst hw; simp [World.cell?, hm]
      | 2, hw => simp [flatK] at hw; subst hw; simp [World.cell?, hm]
      | j + 3, hw => simp [flatK] at hw) (flatK_one _ (by simpa using hone)) (by simp only [maxLen]; omega) (by omega) hbase
  obtain ⟨A', c', rfl⟩ := row_form h3
  have hF : Frm isMail base W W' := (Frm.refl isMail base W).grown_row h4 h.1 (by decide) (Nat.le_refl _) hbase
  refine ⟨A', c', W', hrun, ⟨by rw [List.length_append, flatK_append]; exact h3, fun p hp => ?_⟩, h4, hF⟩
  rcases List.mem_append.1 hp with hp | hp
  · exact ownB_frm (h.2 p hp) hF (by decide)
  · simp only [List.mem_singleton] at hp
    subst hp
    exact ownB_frm hO hF (by decide)

/-- .. and the post's field set. -/
theorem ref_append {W : World} {base q : Nat} {nodes : Int} {rv : Value} {ps : List (Mail3 × Value)} (hb : base ≤ q) (h : RB W q nodes rv) (hR : RowR W base rv ps) (hbase : base ≤ W.heap.size) (ty : TypeId) (b : Nat) (v : Value) (m : Mail3)
    (hm : W.heap[b]? = some (.cells #[.int .i64 m.src, .int .i64 m.dst, v] 34 (0, 0))) (hO : OwnB W base 5 v m.bs) (hroom : ps.length ≤ 1000000000) :
    ∃ A' c' W', (Builtin.append_ #[29, 29] ty #[rv, .slice (some ⟨b, 0, none⟩) 1 1]).run Try.prog W = .ok (.slice A' (ps.length + 1) c') W' ∧ RB W' q nodes rv ∧
      RefPost (W'.setCell ⟨q, 1, none⟩ (.slice A' (ps.length + 1) c')) base q nodes (ps.map (·.1) ++ [m]) ∧ Frm isRef base W (W'.setCell ⟨q, 1, none⟩ (.slice A' (ps.length + 1) c')) := by
  obtain ⟨A', c', W', hrun, hR', hg, hF⟩ := row_append hR hbase ty b v m hm hO hroom
  have hq : RB W' q nodes rv := hF.2 q _ _ _ h (by decide)
  have hne := hq.ne hR'.1
  have hset : Frm (fun t => t == 31) base W' (W'.setCell ⟨q, 1, none⟩ (.slice A' (ps.length + 1) c')) := (Frm.refl _ base W').set hq (by decide) hb (Nat.le_trans hbase hF.size) _
  refine ⟨A', c', W', hrun, hq, ⟨hb, _, ps ++ [(m, v)], ?_, by rw [List.map_append]; rfl, row_frm hR'.1 hset (by decide), fun p hp => ownB_frm (hR'.2 p hp) hset (by decide)⟩, (hF.more ?_).trans (hset.more ?_)⟩
  · have := heap_set hq 1 (.slice A' (ps.length + 1) c')
    exact this.trans (by simp)
  · intro t ht
    unfold isRef at ht
    simp only [Bool.or_eq_false_iff] at ht
    exact ht.2
  · intro t ht
    unfold isRef at ht
    simp only [Bool.or_eq_false_iff] at ht
    exact ht.1

theorem three_below {b : Nat} {W W' : World} {x y z : Value} {t : TypeId} (h : Three W b x y z t) (hB : Below W.heap.size W W') : Three W' b x y z t := h.at (hB.block b (lt_of_at h))

/-- What own hands back. -/
def OwnOut (w : World) (m : Mail3) (e : Ending) (W : World) : Prop := ∃ v, e = .returned (mailV m.src m.dst v) ∧ OwnB W w.heap.size 5 v m.bs ∧ Below w.heap.size w W

set_option maxRecDepth 100000 in
set_option maxHeartbeats 4000000 in
theorem own_calls (m : Mail3) (v : Value) (w : World) (hv : MailIs w.heap.size w v m) (hl : m.bs.length ≤ 65536) : Calls Try.prog 28 #[v] w (OwnOut w m) := by
  obtain ⟨u, rfl, hu⟩ := hv
  obtain ⟨i0, hi, hz0, hz1, hz2⟩ := info_parts info_u8
  obtain ⟨S, D, bs⟩ := m
  obtain ⟨A, cap, rfl⟩ := hu.form
  simp only at hu hl
  obtain ⟨len, hlen⟩ : ∃ len, bs.length = len := ⟨_, rfl⟩
  rw [hlen] at hu
  simp only [hlen]
  obtain ⟨w1, hw1⟩ : ∃ w1, (w.alloc (.cells #[.int .i64 S, .int .i64 D, .slice A len cap] 34)).alloc (.cells #[.int .i64 0, .int .i64 0, .slice none 0 0] 34) = w1 := ⟨_, rfl⟩
  have hB1 : Below w.heap.size w w1 := by rw [← hw1]; exact (((Below.refl _ _).alloc (Nat.le_refl _) _).alloc (by simp) _)
  have hs1 : w1.heap.size = w.heap.size + 2 := by rw [← hw1]; simp
  have hx0 : Three w1 w.heap.size (.int .i64 S) (.int .i64 D) (.slice A len cap) 34 := by
    rw [← hw1]; exact (Below.heap_alloc _ _ _ (by simp)).trans (heap_alloc_new w _)
  have hx1 : Three w1 (w.heap.size + 1) (.int .i64 0) (.int .i64 0) (.slice none 0 0) 34 := by
    rw [← hw1]
    have := heap_alloc_new (w.alloc (.cells #[.int .i64 S, .int .i64 D, .slice A len cap] 34)) (.cells #[.int .i64 0, .int .i64 0, .slice none 0 0] 34)
    rw [World.size_alloc] at this
    exact this
  have hE : OwnB (w1.alloc (.cells #[] 5)) w1.heap.size 5 (.slice (some ⟨w1.heap.size, 0, none⟩) 0 0) [] :=
    ⟨⟨rfl, .inr ⟨w1.heap.size, 0, #[], rfl, Nat.le_refl _, heap_alloc_new w1 _, Nat.le_refl _, by simp [maxLen], rfl, rfl⟩⟩, by simp⟩
  have hB2 : Below w1.heap.size w1 (w1.alloc (.cells #[] 5)) := (Below.refl _ _).alloc (Nat.le_refl _) _
  obtain ⟨v', w2, R, O, G, _⟩ := run_append_bytes (P := Try.prog) (w1.alloc (.cells #[] 5)) 32 Try.underlying32 hi hz0 hz1 hz2 rfl hE (((hu.on hB1)).on hB2) (by simp; omega) (by simp)
  rw [List.nil_append] at O
  have hB3 : Below w1.heap.size w1 w2 := below_append hB2 G hE (Nat.le_refl _) (by simp)
  have hy0 := three_below hx0 hB3
  have hy1 := three_below hx1 hB3
  obtain ⟨x0, x1, x2, z0, z1, z2⟩ := hy0.cells
  obtain ⟨y0, y1, y2, f0, f1, f2⟩ := hy1.cells
  obtain ⟨A', c', rfl⟩ := O.bytes.form
  rw [hlen] at O R
  have hsz : w.heap.size + 2 ≤ w2.heap.size := by have := hB3.size; omega
  have hlt0 : w.heap.size < w2.heap.size := by omega
  have hlt1 : w.heap.size + 1 < w2.heap.size := by omega
  have hW : ∀ X Y Z : Value, OwnOut w ⟨S, D, bs⟩ (.returned (mailV S D (.slice A' len c'))) ((((w2.setCell ⟨w.heap.size, 2, none⟩ Z).setCell ⟨w.heap.size + 1, 0, none⟩ X).setCell ⟨w.heap.size + 1, 1, none⟩ Y).setCell ⟨w.heap.size + 1, 2, none⟩ (.slice A' len c')) := fun X Y Z => by
    have hbl := (hB1.trans (hB3.mono hB1.size))
    refine ⟨_, rfl, ?_, ((((hbl.setCell (p := ⟨w.heap.size, 2, none⟩) (Nat.le_refl _) _).setCell (p := ⟨w.heap.size + 1, 0, none⟩) (Nat.le_succ _) _).setCell (p := ⟨w.heap.size + 1, 1, none⟩) (Nat.le_succ _) _).setCell (p := ⟨w.heap.size + 1, 2, none⟩) (Nat.le_succ _) _)⟩
    have hk : ∀ k, w.heap.size + 2 ≤ k → ((((w2.setCell ⟨w.heap.size, 2, none⟩ Z).setCell ⟨w.heap.size + 1, 0, none⟩ X).setCell ⟨w.heap.size + 1, 1, none⟩ Y).setCell ⟨w.heap.size + 1, 2, none⟩ (.slice A' len c')).heap[k]? = w2.heap[k]? := fun k hk => by
      rw [Below.heap_setCell _ _ _ _ (by show k ≠ w.heap.size + 1; omega), Below.heap_setCell _ _ _ _ (by show k ≠ w.heap.size + 1; omega), Below.heap_setCell _ _ _ _ (by show k ≠ w.heap.size + 1; omega), Below.heap_setCell _ _ _ _ (by show k ≠ w.heap.size; omega)]
    refine ⟨⟨O.1.1, ?_⟩, O.2⟩
    rcases O.1.2 with h0 | ⟨g, cp, cur, hv, h1, h2, h3⟩
    · exact .inl h0
    · exact .inr ⟨g, cp, cur, hv, by omega, (hk g (by omega)).trans h2, h3⟩
  have HFIN := Lib.hid (hW (.int .i64 S) (.int .i64 D) (.slice A' len c'))
  obtain ⟨-, -, p2, -⟩ := hx0.cells
  have hltw : w.heap.size < w1.heap.size := by omega
  have HR := Lib.hid R
  clear hW R O G hE hB2 hB3 hy0 hy1 hx0 hx1 hB1 hu hlen hs1
  go_enter Try.func28, Try.ntmps28
  go_upto_region 1 with fail
  clear hw1
  go_wp2_with (at_builtin; refine wpList_append_ran rfl _ _ _ rfl rfl rfl HR.out ?_)
  refine bodyPost_ret (v := mailV S D (.slice A' len c')) (by simp [results, Try.results28, go_sem, y0, y1, y2]) rfl HFIN.out

end Go.Proofs.Ytjcgkjjomiapoaa.Mail
