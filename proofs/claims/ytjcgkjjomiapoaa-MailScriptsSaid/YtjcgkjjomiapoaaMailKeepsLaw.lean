/-
  The walk of the law MailKeeps: whatever the bytes, it returns true and nothing that lay has turned.
-/
import Derived.Test.YtjcgkjjomiapoaaMailAll
import Derived.Test.YtjcgkjjomiapoaaToldH
import Derived.Test.YtjcgkjjomiapoaaMarkTwo
import Derived.Test.YtjcgkjjomiapoaaMailOrderLaw
import Derived.Maps.AppendAt
import Derived.Sort.CutIn
namespace Go.Proofs.Ytjcgkjjomiapoaa.Mail
open Go Go.RowKit Go.Shelf Go.Proofs.Ytjcgkjjomiapoaa.Law Go.Proofs.Ytjcgkjjomiapoaa.Mark

set_option maxRecDepth 100000 in
theorem spoil_nil (i k : Int) (b : Nat) (w : World) : Calls Try.prog 16 #[.pointer none, .int .i64 i, .int .i64 k, .int .u8 (b : Nat)] w fun e W => e = .returned (.int .i64 9) ∧ w = W := by
  have CR := Lib.hid (refusal_nil i w)
  go_enter Try.func16, Try.ntmps16
  go_wp2_with fail
  refine CR.out.mono ?_
  rintro e W ⟨rfl, rfl⟩
  go_wp2_with fail
  go_ret
  exact ⟨rfl, rfl⟩
set_option maxRecDepth 100000 in
theorem lose_nil (i : Int) (w : World) : Calls Try.prog 18 #[.pointer none, .int .i64 i] w fun e W => e = .returned (.int .i64 0) ∧ Below w.heap.size w W := by
  have HB := Lib.hid ((Below.refl w.heap.size w).alloc (Nat.le_refl _) (.cells #[.int .i64 i] 3))
  go_enter Try.func18, Try.ntmps18
  go_wp2_with fail
  go_ret
  exact ⟨rfl, HB.out⟩

end Go.Proofs.Ytjcgkjjomiapoaa.Mail

namespace Go.Proofs.Ytjcgkjjomiapoaa.Mail
open Go.RowKit Go.Shelf Go.Proofs.Ytjcgkjjomiapoaa.Law Go.Proofs.Ytjcgkjjomiapoaa.Mark
attribute [local go_sem] Oper.semAt_some

theorem given_ownM {W : World} {base : Nat} {v : Value} {bs : List Nat} (h : Given W base v bs) : OwnM W base 5 v bs := by
  obtain ⟨h0, g, cap, cur, hv, hb, hg, h1, h2, h3, h4⟩ := h
  exact ⟨⟨vals_length bs, .inr ⟨g, cap, cur, _, hv, hb, hg, .inr (Nat.le_refl _), h1, h2, h3, h4⟩⟩, h0⟩

def isL (t : TypeId) : Bool := t == 32 || t == 56
theorem isL_notPost : ∀ t, notPost t = false → isL t = false := by
  intro t h
  unfold notPost isPost at h
  simp only [Bool.not_eq_false', Bool.or_eq_true, beq_iff_eq] at h
  rcases h with rfl | rfl <;> decide

def AllFine (base : Nat) (ps : List Piece) (W : World) : Prop := ∀ x ∈ ps, Fine base x W
/-- The data collected so far, in a row in a box. -/
def RowIs (a B : Nat) (ps : List Piece) (W : World) : Prop := ∃ v, Boxed W B 56 v ∧ W.ownsRow a 32 1 v ps.length (ps.map (·.1)) ∧ True
theorem rowIs_own (a B : Nat) : Own (fun (ps : List Piece) W => RowIs a B ps W) := by
  unfold RowIs
  exact holdsRow_own a B 56 32 1 (fun pre : List Piece => pre.length) (fun pre : List Piece => pre.map (fun x : Piece => x.1)) (fun _ _ => True)
theorem forall_fine_own (base : Nat) : Own (fun (ps : List Piece) W => AllFine base ps W) :=
  fun _ A B row hs hg hr x hx => fine_own base x A B row (hs x hx) hg hr
theorem frm_ownFrom {β : Type} (S : TypeId → Bool) (a : Nat) (w8 : World) (ha : a ≤ w8.heap.size) : OwnFrom w8.heap.size (fun (_ : β) W => Frm S a w8 W) :=
  fun _ A B row hs hg hr => by
    refine hs.trans ⟨(Below.refl a A).grown hg (Nat.le_trans ha hs.size) (fun k hk => by have := (hr k hk).1; omega), fun k cs t fr hk ht => (hg.block k (lt_of_at hk) (fun e => ?_)).trans hk⟩
    obtain ⟨_, o, ho, hc⟩ := hr k e.symm
    rw [hk] at ho
    cases ho
    cases hc
theorem frm_none {S : TypeId → Bool} {a : Nat} {A B : World} (ha : a ≤ A.heap.size) (hg : A.grownBy B none) : Frm S a A B :=
  (Frm.refl S a A).grown hg (fun k hk => by cases hk) ha

/-- The front of bytes of the call's own, as such bytes. -/
theorem ownM_front {W : World} {base g len cap : Nat} {e : TypeId} {bs xs : List Nat} (h : OwnB W base e (.slice (some ⟨g, 0, none⟩) len cap) (bs ++ xs)) (hl : (bs ++ xs).length = len) : OwnM W base e (.slice (some ⟨g, 0, none⟩) bs.length cap) bs := by
  subst hl
  refine ⟨⟨vals_length bs, ?_⟩, fun x hx => h.2 x (List.mem_append_left _ hx)⟩
  rcases h.1.2 with ⟨hv, _⟩ | ⟨g', cap', cur, hv, hb, hg, hn, hc, hs, ht⟩
  · cases hv
  · simp only [Value.slice.injEq, Option.some.injEq, Addr.mk.injEq, and_true, true_and] at hv
    obtain ⟨rfl, rfl⟩ := hv
    rw [List.length_append] at hn
    refine .inr ⟨g, cap, cur, (0, 0), rfl, hb, hg, .inl rfl, by omega, hc, by omega, ?_⟩
    have h1 : cur.toList.take bs.length = (cur.toList.take ((bs ++ xs).length * 1)).take bs.length := by
      rw [List.take_take]; congr 1; rw [List.length_append]; omega
    rw [h1, ht, vals_append]
    have h2 : (vals bs).length = bs.length := vals_length bs
    rw [← h2, List.take_left]

def four (a b c d : Value) (j : Nat) : Value := if j = 0 then a else if j = 1 then b else if j = 2 then c else d
theorem four_cases {P : Nat → Prop} (h0 : P 0) (h1 : P 1) (h2 : P 2) (h3 : P 3) : ∀ j, j < 4 → P j
  | 0, _ => h0
  | 1, _ => h1
  | 2, _ => h2
  | 3, _ => h3
  | j + 4, h => absurd h (by omega)
theorem distinct_four {a b c d : Value} {A B C D : Nat} (ha : a.ownBlock = some A) (hb : b.ownBlock = some B) (hc : c.ownBlock = some C) (hd : d.ownBlock = some D) (h1 : A ≠ B) (h2 : A ≠ C) (h3 : A ≠ D) (h4 : B ≠ C) (h5 : B ≠ D) (h6 : C ≠ D) : Distinct 4 (four a b c d) := by
  intro i j hi hj hne x hx
  match i, j, hi, hj with
  | 0, 0, _, _ => exact absurd rfl hne
  | 1, 1, _, _ => exact absurd rfl hne
  | 2, 2, _, _ => exact absurd rfl hne
  | 3, 3, _, _ => exact absurd rfl hne
  | 0, 1, _, _ => simp [four, ha, hb] at hx ⊢; omega
  | 0, 2, _, _ => simp [four, ha, hc] at hx ⊢; omega
  | 0, 3, _, _ => simp [four, ha, hd] at hx ⊢; omega
  | 1, 0, _, _ => simp [four, ha, hb] at hx ⊢; omega
  | 1, 2, _, _ => simp [four, hb, hc] at hx ⊢; omega
  | 1, 3, _, _ => simp [four, hb, hd] at hx ⊢; omega
  | 2, 0, _, _ => simp [four, ha, hc] at hx ⊢; omega
  | 2, 1, _, _ => simp [four, hb, hc] at hx ⊢; omega
  | 2, 3, _, _ => simp [four, hc, hd] at hx ⊢; omega
  | 3, 0, _, _ => simp [four, ha, hd] at hx ⊢; omega
  | 3, 1, _, _ => simp [four, hb, hd] at hx ⊢; omega
  | 3, 2, _, _ => simp [four, hc, hd] at hx ⊢; omega

/-- Apart leaves a post as it was. -/
theorem post_leaves {W W' : World} {base b p N : Nat} {v : Nat → Value} {nodes : Int} {ms : List Msg} (h : Post W base p nodes ms) (hL : Go.Proofs.Ytjcgkjjomiapoaa.Mark.Leaves N v b W W') (hv : ∀ j, j < N → ∃ bs, OwnM W b 5 (v j) bs) : Post W' base p nodes ms := by
  have hne : ∀ (k : Nat) (cs : Array Value) (t : TypeId) (fr : Nat × Nat), W.heap[k]? = some (.cells cs t fr) → 5 ≠ t → W'.heap[k]? = W.heap[k]? := fun k cs t fr hk ht => by
    refine hL.2 k (lt_of_at hk) fun j hj e => ?_
    obtain ⟨bs, hb⟩ := hv j hj
    rcases hb.cells_ofA hk ht with h1 | h1
    · rw [h1] at e; cases e
    · exact h1 e
  obtain ⟨hb, rv, h1, h2⟩ := h
  refine ⟨hb, rv, (hne p _ _ _ h1 (by decide)).trans h1, h2.keep fun g hg => ?_⟩
  obtain ⟨_, _, cur, hc⟩ := h2.own g hg
  exact hne g _ _ _ hc (by decide)

/-- The nil post's iterator tells nothing. -/
theorem nil_stops (n : Nat) (hn : 2 ≤ n) (Bx : Nat) (w : World) (hbx : Boxed w Bx 24 (.pointer none)) :
    SeqTold Fence.wide n Try.prog 34 #[.pointer (some ⟨Bx, 0, none⟩)] (fun x : Piece => #[mailV x.2.src x.2.dst x.1]) (fun _ _ => False) (KM 0)
      (fun ys => ys = []) (fun _ => False) 0 w := by
  intro l J Jx W hW _ _ _ h0
  exact (all1_nil n hn l Bx J W ((hW.block Bx hbx.lt).trans hbx) h0).mono fun e W' ⟨h1, h2⟩ => ⟨h1, .inl ⟨[], rfl, h2⟩⟩

/-- What holds behind a message was taken and laid into a box. -/
structure After (w : World) (p : Nat) (D : Nat) (ms : List Msg) (W : World) : Prop where
  post : Post W w.heap.size p 2 ms
  low : Below w.heap.size w W
  rest : W.heap[D]? = some (.deferred (some []))
theorem After.take {w w11 w12 : World} {p D : Nat} {ms ms' : List Msg} {v : Value} {t : TypeId} {m : Msg} (h : After w p D ms w11) (hP : Post w12 w.heap.size p 2 ms') (hF : Frm isPost w.heap.size w11 w12) (hk : KeepsOthers w11 w12) : After w p D ms' (w12.alloc (.cells #[.int .i64 m.src, .int .i64 m.dst, v] t)) := by
  have hb := (Below.refl w12.heap.size w12).alloc (Nat.le_refl _) (.cells #[.int .i64 m.src, .int .i64 m.dst, v] t)
  have h2 := h.low.trans hF.low
  have h3 := hk.same D _ h.rest rfl
  exact ⟨hP.below hb, h2.trans (hb.mono h2.size), (hb.block D (lt_of_at h3)).trans h3⟩
theorem Three.frm {S : TypeId → Bool} {B b : Nat} {W W' : World} {x y z : Value} {t : TypeId} (h : Three W b x y z t) (hF : Frm S B W W') (hS : S t = false) : Three W' b x y z t := hF.2 b _ _ _ h hS
theorem Three.below {b : Nat} {W W' : World} {x y z : Value} {t : TypeId} (h : Three W b x y z t) (hB : Below W.heap.size W W') : Three W' b x y z t := h.at (hB.block b (lt_of_at h))

theorem leaves_cells {W W' : World} {b N : Nat} {v : Nat → Value} (hL : Go.Proofs.Ytjcgkjjomiapoaa.Mark.Leaves N v b W W') (hv : ∀ j, j < N → ∃ bs, OwnM W b 5 (v j) bs) {k : Nat} {cs : Array Value} {t : TypeId} {fr : Nat × Nat} (hk : W.heap[k]? = some (.cells cs t fr)) (ht : 5 ≠ t) : W'.heap[k]? = W.heap[k]? := by
  refine hL.2 k (lt_of_at hk) fun j hj e => ?_
  obtain ⟨bs, hb⟩ := hv j hj
  rcases hb.cells_ofA hk ht with h1 | h1
  · rw [h1] at e; cases e
  · exact h1 e
theorem leaves_other {W W' : World} {b N : Nat} {v : Nat → Value} (hL : Go.Proofs.Ytjcgkjjomiapoaa.Mark.Leaves N v b W W') (hv : ∀ j, j < N → ∃ bs, OwnM W b 5 (v j) bs) {k : Nat} {o : Obj} (hk : W.heap[k]? = some o) (ho : ∀ cur fz, o ≠ .cells cur 5 fz) : W'.heap[k]? = some o := by
  refine (hL.2 k (lt_of_at hk) fun j hj e => ?_).trans hk
  obtain ⟨bs, hb⟩ := hv j hj
  rcases hb.other hk ho with h1 | h1
  · rw [h1] at e; cases e
  · exact h1 e
theorem distinct_three {a b c : Value} {A B C : Nat} (ha : a.ownBlock = some A) (hb : b.ownBlock = some B) (hc : c.ownBlock = some C) (h1 : A ≠ B) (h2 : A ≠ C) (h4 : B ≠ C) : Distinct 3 (four a b c (.slice none 0 0)) := by
  intro i j hi hj hne x hx
  match i, j, hi, hj with
  | 0, 0, _, _ => exact absurd rfl hne
  | 1, 1, _, _ => exact absurd rfl hne
  | 2, 2, _, _ => exact absurd rfl hne
  | 0, 1, _, _ => simp [four, ha, hb] at hx ⊢; omega
  | 0, 2, _, _ => simp [four, ha, hc] at hx ⊢; omega
  | 1, 0, _, _ => simp [four, ha, hb] at hx ⊢; omega
  | 1, 2, _, _ => simp [four, hb, hc] at hx ⊢; omega
  | 2, 0, _, _ => simp [four, ha, hc] at hx ⊢; omega
  | 2, 1, _, _ => simp [four, hb, hc] at hx ⊢; omega
theorem three_cases {P : Nat → Prop} (h0 : P 0) (h1 : P 1) (h2 : P 2) : ∀ j, j < 3 → P j
  | 0, _ => h0
  | 1, _ => h1
  | 2, _ => h2
  | j + 3, h => absurd h (by omega)

theorem hO_frm {S : TypeId → Bool} {B base : Nat} {W W' : World} {v : Value} {xs : List Nat} (h : OwnB W base 5 v xs) (hF : Frm S B W W') (hS : S 5 = false := by decide) : OwnB W' base 5 v xs := ⟨row_frm h.1 hF hS, h.2⟩

set_option maxRecDepth 100000 in
set_option maxHeartbeats 8000000 in
theorem mailKeeps_in (n : Nat) (hn : 5 ≤ n) (sv : Value) (bs : List Nat) (hreach : bs.length ≤ 140737488351232) (w : World) (hI : Bytes w.heap.size w sv bs) :
    CallsIn Fence.wide n Try.prog 5 #[sv] w fun e W => e = .returned (.bool true) ∧ Below w.heap.size w W := by
  have h1 : 1 ≤ n := by omega
  obtain ⟨i0, hi, hz0, hz1, hz2⟩ := info_parts info_rowB
  obtain ⟨A, cap, rfl⟩ := hI.form
  obtain ⟨len, hlen⟩ : ∃ len, bs.length = len := ⟨_, rfl⟩
  rw [hlen] at hI ⊢
  have hlenb : len ≤ 140737488351232 := by rw [← hlen]; exact hreach
  have HL := Lib.hid hlen
  have HI := Lib.hid hI
  have CK := Lib.hid (known_calls w)
  clear hlen hI
  refine callsIn_of_wp_marks Try.func5 rfl trivial ?_ rfl
  simp only [Try.ntmps5, List.size_toArray, List.length_cons, List.length_nil, Nat.reduceAdd, Nat.reduceSub, Array.replicate_succ, Array.replicate_zero, List.push_toArray, List.append_toArray, List.nil_append, List.cons_append]
  gi_wp2_with fail
  refine ⟨trivial, ?_⟩
  refine (callsIn_wide.2 CK.out).mono ?_
  rintro e w1 ⟨rfl, hB1⟩
  have hs1 := hB1.size
  have HB1 := Lib.hid hB1
  clear hB1 CK
  gi_wp2_with fail
  refine ⟨trivial, ?_⟩
  refine (callsIn_wide.2 (new_calls 2 (by decide) (by decide) w1)).mono ?_
  rintro e w2 ⟨rfl, hP2, hB2⟩
  have hs2 := hB2.size
  have HP2 := Lib.hid (hP2.lower hs1)
  have HB2 := Lib.hid (HB1.out.trans (hB2.mono hs1))
  have CR := Lib.hid (room_calls (.slice A len cap) bs hreach w2 (HI.out.on HB2.out))
  clear hP2 hB2 HB1
  gi_wp2_with fail
  refine ⟨trivial, ?_⟩
  refine (callsIn_wide.2 CR.out).mono ?_
  rintro e w3 ⟨g3, c3, rfl, hO3, hB3⟩
  have hl3 : (bs ++ [171, 172, 173]).length = bs.length + 3 := by simp
  have hF3 := hO3.front bs.length (by omega) hl3
  rw [List.take_left' rfl] at hF3
  have hs3 := hB3.size
  rw [HL.out] at hO3 hF3 ⊢
  have HO3 := Lib.hid hO3
  have HF3 := Lib.hid hF3
  have HP3 := Lib.hid (HP2.out.below hB3)
  have HB3 := Lib.hid (HB2.out.trans (hB3.mono (by omega)))
  clear hO3 hF3 hB3 CR HP2 HB2 hl3
  by_cases hlong : 65536 < len
  · have CS := Lib.hid (send_long w.heap.size w1.heap.size 2 [] w3 HP3.out 0 0 (by decide) (by decide) (some ⟨g3, 0, none⟩) len c3 hlong (by omega))
    gi_wp2_with fail
    refine ⟨trivial, ?_⟩
    refine (callsIn_wide.2 CS.out).mono ?_
    rintro e w4 ⟨rfl, hB4⟩
    have HB4 := Lib.hid (HB3.out.trans (hB4.mono (by omega)))
    clear hB4
    gi_wp2_with fail
    exact ⟨_, results_tmp rfl _ _ _, rfl, HB4.out⟩
  · have hsmall : len ≤ 65536 := by omega
    clear hlong
    have CS := Lib.hid (send_calls w.heap.size w1.heap.size 2 [] w3 HP3.out (by omega) 0 0 (by decide) (by decide) (.slice (some ⟨g3, 0, none⟩) len c3) bs (by have := HF3.out; exact this) (by rw [HL.out]; exact hsmall) (by decide))
    gi_wp2_with fail
    refine ⟨trivial, ?_⟩
    refine (callsIn_wide.2 CS.out).mono ?_
    rintro e w4 ⟨rfl, hP4, hF4⟩
    have hB4 := HB3.out.trans hF4.low
    have hs4 := hF4.size
    have hO4 := hO_frm HO3.out hF4
    have hk4 := kept_true (.slice A len cap) bs hreach w4 _ g3 c3 (by rw [HL.out]; exact hO4) (by have := HI.out.on hB4; exact this)
    rw [HL.out] at hk4
    have CK := Lib.hid hk4
    have HO4 := Lib.hid hO4
    have HP4 := Lib.hid hP4
    have HB4 := Lib.hid hB4
    clear hP4 hF4 hB4 hO4 hk4 CS HO3 HF3 HP3 HB3
    gi_wp2_with fail
    refine ⟨trivial, ?_⟩
    refine (callsIn_wide.2 CK.out).mono ?_
    rintro e W ⟨rfl, rfl⟩
    have CT := Lib.hid (twice_calls w.heap.size w1.heap.size 2 _ _ HP4.out (by have := HB4.out.size; exact this) 0 ⟨0, 0, str bs⟩ rfl (by simp))
    clear CK
    gi_wp2_with fail
    refine ⟨trivial, ?_⟩
    refine (callsIn_wide.2 CT.out).mono ?_
    rintro e w5 ⟨rfl, hP5, hF5⟩
    have HP5 := Lib.hid hP5
    have HB5 := Lib.hid (HB4.out.trans hF5.low)
    have HO5 := Lib.hid (hO_frm HO4.out hF5)
    have hs5 := hF5.size
    have CT := Lib.hid (twice_calls w.heap.size w1.heap.size 2 _ _ hP5 HB5.out.size 0 ⟨0, 0, str bs⟩ rfl (by simp))
    clear hP5 hF5 HP4 HB4 HO4
    gi_wp2_with fail
    refine ⟨trivial, ?_⟩
    refine (callsIn_wide.2 CT.out).mono ?_
    rintro e w6 ⟨rfl, hP6, hF6⟩
    have hs6 := hF6.size
    obtain ⟨w7, hw7⟩ : ∃ w7, w6.alloc (.cells #[.slice none 0 0] 56) = w7 := ⟨_, rfl⟩
    have hb7 : Below w6.heap.size w6 w7 := by rw [← hw7]; exact (Below.refl _ _).alloc (Nat.le_refl _) _
    have HX7 := Lib.hid (show Boxed w7 w6.heap.size 56 (.slice none 0 0) by rw [← hw7]; exact Boxed.new w6 _ _)
    have HP7 := Lib.hid (hP6.below hb7)
    have HB7 := Lib.hid ((HB5.out.trans hF6.low).trans (hb7.mono (HB5.out.trans hF6.low).size))
    have HO7 := Lib.hid ((hO_frm HO5.out hF6).below hb7)
    have hs7 := hb7.size
    have HW7 := Lib.hid hw7
    have CA := Lib.hid (all_calls (some ⟨w1.heap.size, 0, none⟩) w7)
    clear hP6 hF6 hb7 hw7 CT HP5 HB5 HO5
    gi_wp2_with fail
    refine ⟨trivial, ?_⟩
    rw [HW7.out]
    refine (callsIn_wide.2 CA.out).mono ?_
    rintro e w8 ⟨rfl, hbx, hB8⟩
    have hs8 := hB8.size
    have HX8 := Lib.hid (show Boxed w8 w6.heap.size 56 (.slice none 0 0) from (hB8.block _ HX7.out.lt).trans HX7.out)
    have HP8 := Lib.hid (HP7.out.below hB8)
    have HB8 := Lib.hid (HB7.out.trans (hB8.mono HB7.out.size))
    have HO8 := Lib.hid (HO7.out.below hB8)
    have HBX := Lib.hid hbx
    have HSZ : Hid (∀ m ∈ ([] ++ [(⟨0, 0, str bs⟩ : Msg)]) ++ [⟨0, 0, str bs⟩] ++ [⟨0, 0, str bs⟩], m.s.size ≤ 65536) := by
      intro m hm
      have hm' : m = ⟨0, 0, str bs⟩ := by simpa using hm
      rw [hm']
      show (str bs).size ≤ _
      unfold str; show (bs.map UInt8.ofNat).toArray.size ≤ _
      have := HL.out
      simp; omega
    have hlt8 : w7.heap.size < w8.heap.size := hbx.lt
    clear hbx hB8 HX7 HP7 HB7 HO7 CA
    gi_wp2_with fail
    refine wpIn_rangeFunc_toldH rfl h1 (gf := 34) (lb := #[.pointer (some ⟨w7.heap.size, 0, none⟩)]) rfl trivial (enters_of Try.func34 (by kernel_rfl) rfl)
      (all_stops (n - 1) (by omega) w.heap.size w.heap.size w1.heap.size w7.heap.size 2 _ (by simp) HSZ.out w8 HBX.out HP8.out) KM.trans (km_b (by have := HB8.out.size; exact this)) (Below.refl _ _) (fun _ => rfl)
      (fun pre W => RowIs w.heap.size w6.heap.size pre W ∧ (AllFine w8.heap.size pre W ∧ (Frm notPost w.heap.size w8 W ∧ OwnB W w2.heap.size 5 (.slice (some ⟨g3, 0, none⟩) (len + 3) c3) (bs ++ [171, 172, 173]))))
      (fun _ _ _ => False)
      (OwnFrom.and ((rowIs_own w.heap.size w6.heap.size).from _)
        (OwnFrom.and ((forall_fine_own w8.heap.size).from _) (OwnFrom.and (frm_ownFrom notPost w.heap.size w8 HB8.out.size) ((ownB_own (β := List Piece) w2.heap.size 5 (fun _ => .slice (some ⟨g3, 0, none⟩) (len + 3) c3) (fun _ => bs ++ [171, 172, 173])).from _))))
      (fun _ _ _ _ _ hs _ _ => hs)
      (fun x => Own.from (fun _ A B row hs hg hr => fine_own w8.heap.size x A B row hs hg hr) _)
      ⟨⟨_, HX8.out, World.ownsRow_nil _ _ _ _, trivial⟩, (fun x hx => by cases hx), Frm.refl _ _ _, HO8.out⟩
      (fun hA hg => frm_none (by have := HB8.out.size; omega) hg)
      (fun x a' W => ∃ Bx, Three W Bx (.int .i64 x.2.src) (.int .i64 x.2.dst) x.1 34 ∧ a' = { tmps := List.toArray ((.slice A len cap) :: undef :: (.bool false) :: (.pointer (some ⟨w1.heap.size, 0, none⟩)) :: (.int .i64 0) :: (.slice (some ⟨g3, 0, none⟩) len c3) :: (.pointer (some ⟨w6.heap.size, 0, none⟩)) :: (.pointer (some ⟨Bx, 0, none⟩)) :: undef :: undef :: undef :: undef :: undef :: undef :: undef :: undef :: undef :: undef :: (.bool true) :: (.bool false) :: (.tuple #[.pointer (some ⟨w1.heap.size, 0, none⟩), .int .i64 0]) :: (.tuple #[.pointer (some ⟨w1.heap.size, 0, none⟩), .int .i64 0]) :: (.pointer (some ⟨w1.heap.size, 0, none⟩)) :: (.int .i64 0) :: (.slice A len cap) :: (.slice (some ⟨g3, 0, none⟩) len c3) :: (.slice A len cap) :: (.int .i64 ↑len) :: (.bool (decide ((65536 : Int) < (len : Int)))) :: undef :: undef :: undef :: undef :: undef :: (.pointer (some ⟨w1.heap.size, 0, none⟩)) :: (.slice (some ⟨g3, 0, none⟩) len c3) :: (.agg #[.int .i64 0, .int .i64 0, .slice (some ⟨g3, 0, none⟩) len c3]) :: (.int .i64 0) :: (.bool false) :: (.bool false) :: (.slice (some ⟨g3, 0, none⟩) len c3) :: (.slice A len cap) :: (.bool true) :: (.bool false) :: (.bool false) :: (.bool false) :: (.pointer (some ⟨w1.heap.size, 0, none⟩)) :: (.int .i64 0) :: (.bool false) :: (.bool false) :: (.bool false) :: (.pointer (some ⟨w1.heap.size, 0, none⟩)) :: (.int .i64 0) :: (.bool false) :: (.bool false) :: (.pointer (some ⟨w1.heap.size, 0, none⟩)) :: (.func (.func 34) #[] #[.pointer (some ⟨w7.heap.size, 0, none⟩)]) :: (mailV x.2.src x.2.dst x.1) :: undef :: undef :: undef :: undef :: undef :: undef :: undef :: undef :: undef :: undef :: undef :: undef :: undef :: undef :: undef :: undef :: undef :: undef :: undef :: undef :: undef :: undef :: undef :: undef :: undef :: undef :: undef :: undef :: undef :: undef :: undef :: undef :: undef :: undef :: undef :: undef :: undef :: undef :: undef :: undef :: undef :: undef :: undef :: undef :: undef :: undef :: undef :: undef :: undef :: undef :: undef :: undef :: undef :: undef :: undef :: undef :: undef :: undef :: undef :: undef :: undef :: undef :: undef :: undef :: undef :: undef :: undef :: undef :: undef :: undef :: undef :: undef :: undef :: undef :: undef :: undef :: undef :: undef :: undef :: undef :: undef :: undef :: undef :: undef :: undef :: undef :: undef :: undef :: undef :: undef :: undef :: undef :: undef :: undef :: undef :: undef :: undef :: undef :: undef :: undef :: undef :: undef :: undef :: []), defers := [] })
      (fun x a' _ A B row hs hg hr => by
        obtain ⟨Bx, h3, h4⟩ := hs
        refine ⟨Bx, h3.at (hg.block _ (lt_of_at h3) (fun e => ?_)), h4⟩
        obtain ⟨_, o, ho, hc⟩ := hr _ e.symm
        unfold Three at h3
        rw [h3] at ho
        cases ho
        cases hc)
      ?assign ?body ?done ?stop
    case assign =>
      intro l pre x W K hI hG hK
      obtain ⟨xv, S, D, T⟩ := x
      obtain ⟨gx, cx, hgx, _⟩ := hG.own
      simp only at hgx
      subst hgx
      gi_wp2
      exact hK _ _ (World.grownBy_alloc _ _ _) ⟨W.heap.size, heap_alloc_new W _, rfl⟩
    case body =>
      rintro l pre ⟨xv, m⟩ a' W ⟨⟨v, hv, hrow, -⟩, hfine, hFr, hO⟩ hG ⟨Bx, h3, rfl⟩ - hlt
      obtain ⟨gx, cx, hgx, _⟩ := (show Given W w8.heap.size xv (bytesOf m.s) from hG).own
      subst hgx
      have hlt3 : pre.length < 3 := by simpa using hlt
      have hsW : w.heap.size ≤ W.heap.size := Nat.le_trans HB8.out.size hFr.size
      have h6W : w.heap.size ≤ w6.heap.size := by omega
      have hc6 := hv.cell
      have hf6 := hv.frozen
      obtain ⟨-, -, h32, -⟩ := h3.cells
      obtain ⟨L, hL⟩ : ∃ L, (bytesOf m.s).length = L := ⟨_, rfl⟩
      have HG := Lib.hid hG
      have HFI := Lib.hid hfine
      have HFR := Lib.hid hFr
      have HO := Lib.hid hO
      have HLL := Lib.hid hL
      simp only at h32
      rw [hL] at h32 ⊢
      have hn3 : 1 ≤ n - 1 - 1 := by omega
      have h3lt : Bx < W.heap.size := lt_of_at h3
      clear hG hfine hFr hO hlt h3 hL
      gi_wp2_with (gi_at_builtin; (refine wpListIn_append_own _ rfl _ _ 56 rfl w.heap.size 32 i0 (.slice none 0 0) 1 24 Try.underlying56 hi hz0 hz1 hz2 rfl (by decide) _ _ _ rfl (hrow.alloc _) ⟨W.heap.size, 0, none⟩ 1 1 [.slice (some ⟨gx, 0, none⟩) L cx] rfl rfl (cell_one_new _ _ _) (by simp [Value.oneCell']) (by simp only [maxLen]; omega) (by omega) (by simp; omega) ?_); intro v' w9 hown' hgrow _; obtain ⟨g', cap', rfl⟩ := ownsRow_succ hown'; (obtain ⟨k1, k2, k3, k4, k5⟩ := hv.appended (by decide) hrow hsW h6W hown' hgrow); have hc1 := k1.cell; have hf1 := k1.frozen)
      have hF : Frm isL w.heap.size W (w9.setCell ⟨w6.heap.size, 0, none⟩ (.slice (some ⟨g', 0, none⟩) (pre.length + 1) cap')) :=
        (((Frm.refl isL w.heap.size W).alloc hsW _).grown_row hgrow (hrow.alloc _) (by decide) (Nat.le_refl _) (by simp; omega)).set k1 (by decide) h6W (by have := hgrow.size; simp at this; omega) _
      have hKM : KM w.heap.size W (w9.setCell ⟨w6.heap.size, 0, none⟩ (.slice (some ⟨g', 0, none⟩) (pre.length + 1) cap')) := hF.more isL_notPost
      have hfin : ∀ y : Piece, Fine w8.heap.size y W → Fine w8.heap.size y (w9.setCell ⟨w6.heap.size, 0, none⟩ (.slice (some ⟨g', 0, none⟩) (pre.length + 1) cap')) := fun y hy => Given.frm hy hF (by decide)
      have hFR2 : Frm notPost w.heap.size w8 (w9.setCell ⟨w6.heap.size, 0, none⟩ (.slice (some ⟨g', 0, none⟩) (pre.length + 1) cap')) := HFR.out.trans hKM
      refine ⟨k4, hKM, ⟨⟨_, k2, by simpa using k3, trivial⟩, fun y hy => ?_, hFR2, hO_frm HO.out hF⟩⟩
      rcases List.mem_append.1 hy with hy | hy
      · exact hfin y (HFI.out y hy)
      · simp only [List.mem_singleton] at hy
        subst hy
        refine hfin _ ?_
        have := HG.out
        rw [HLL.out] at this
        exact this
    case done =>
      rintro D ys W hD ⟨hys, hasc⟩ ⟨⟨v, hv, hrow, -⟩, hfine, hFr, hO⟩ hK
      have hl3 : ys.length = 3 := by rw [← msgsOf_length, hys]; rfl
      match ys, hl3 with
      | [y0, y1, y2], _ =>
        obtain ⟨v0, m0⟩ := y0
        obtain ⟨v1, m1⟩ := y1
        obtain ⟨v2, m2⟩ := y2
        have hm : m0 = ⟨0, 0, str bs⟩ ∧ m1 = ⟨0, 0, str bs⟩ ∧ m2 = ⟨0, 0, str bs⟩ := by simpa [msgsOf] using hys
        obtain ⟨rfl, rfl, rfl⟩ := hm
        have f0 : Given W w8.heap.size v0 (bytesOf (str bs)) := hfine (v0, ⟨0, 0, str bs⟩) (by simp)
        have f1 : Given W w8.heap.size v1 (bytesOf (str bs)) := hfine (v1, ⟨0, 0, str bs⟩) (by simp)
        have f2 : Given W w8.heap.size v2 (bytesOf (str bs)) := hfine (v2, ⟨0, 0, str bs⟩) (by simp)
        rw [bytesOf_str HI.out.lt] at f0 f1 f2
        obtain ⟨b0, k0, rfl, hb0, hb0'⟩ := f0.own
        obtain ⟨b1, k1, rfl, hb1, hb1'⟩ := f1.own
        obtain ⟨b2, k2, rfl, hb2, hb2'⟩ := f2.own
        have hlt01 : b0 < b1 ∧ b0 < b2 ∧ b1 < b2 := by
          unfold Asc at hasc
          simp only [List.pairwise_cons, List.mem_cons, List.not_mem_nil, or_false] at hasc
          exact ⟨hasc.1 _ (.inl rfl) b0 b1 rfl rfl, hasc.1 _ (.inr rfl) b0 b2 rfl rfl, hasc.2.1 _ rfl b1 b2 rfl rfl⟩
        have hsW : w.heap.size ≤ W.heap.size := Nat.le_trans HB8.out.size hFr.size
        have h6W : w.heap.size ≤ w6.heap.size := by omega
        have h38 : g3 < w8.heap.size := by
          have := HO8.out.1.lt g3 rfl
          omega
        have hc6 := hv.cell
        have hf6 := hv.frozen
        have F0 := Lib.hid f0
        have F1 := Lib.hid f1
        have F2 := Lib.hid f2
        have HFR := Lib.hid hFr
        have HO := Lib.hid hO
        have HK := Lib.hid hK
        have hrow' : W.ownsRow w.heap.size 32 1 v 3 [.slice (some ⟨b0, 0, none⟩) bs.length k0, .slice (some ⟨b1, 0, none⟩) bs.length k1, .slice (some ⟨b2, 0, none⟩) bs.length k2] := hrow
        clear hfine hFr hO hys hasc hK f0 f1 f2 hrow
        rw [HL.out] at hrow'
        gi_wp2_with (gi_at_builtin; (refine wpListIn_append_own _ rfl _ _ 56 rfl w.heap.size 32 i0 (.slice none 0 0) 1 24 Try.underlying56 hi hz0 hz1 hz2 rfl (by decide) _ _ _ rfl (hrow'.alloc _) ⟨W.heap.size, 0, none⟩ 1 1 [.slice (some ⟨g3, 0, none⟩) len c3] rfl rfl (cell_one_new _ _ _) (by simp [Value.oneCell']) (by simp only [maxLen]; omega) (by omega) (by simp; omega) ?_); intro v' w9 hown' hgrow _; obtain ⟨g', cap', rfl⟩ := ownsRow_succ hown'; (obtain ⟨q1, q2, q3, q4, q5⟩ := hv.appended (by decide) hrow' hsW h6W hown' hgrow); have hc1 := q1.cell; have hf1 := q1.frozen)
        obtain ⟨w10, hw10⟩ : ∃ w10, w9.setCell ⟨w6.heap.size, 0, none⟩ (.slice (some ⟨g', 0, none⟩) 4 cap') = w10 := ⟨_, rfl⟩
        have q3 : w10.ownsRow w.heap.size 32 1 (.slice (some ⟨g', 0, none⟩) 4 cap') 4 [.slice (some ⟨b0, 0, none⟩) len k0, .slice (some ⟨b1, 0, none⟩) len k1, .slice (some ⟨b2, 0, none⟩) len k2, .slice (some ⟨g3, 0, none⟩) len c3] := by rw [← hw10]; exact q3
        have q4 : KeepsOthers W w10 := by rw [← hw10]; exact q4
        have hF : Frm isL w.heap.size W w10 := by
          rw [← hw10]
          exact (((Frm.refl isL w.heap.size W).alloc hsW _).grown_row hgrow (hrow'.alloc _) (by decide) (Nat.le_refl _) (by simp; omega)).set q1 (by decide) h6W (by have := hgrow.size; simp at this; omega) _
        have hFR2 : Frm notPost w.heap.size w8 w10 := HFR.out.trans (hF.more isL_notPost)
        have o0 : OwnM w10 w.heap.size 5 (.slice (some ⟨b0, 0, none⟩) len k0) bs := by rw [← HL.out]; exact (given_ownM (Given.frm F0.out hF (by decide))).lower HB8.out.size
        have o1 : OwnM w10 w.heap.size 5 (.slice (some ⟨b1, 0, none⟩) len k1) bs := by rw [← HL.out]; exact (given_ownM (Given.frm F1.out hF (by decide))).lower HB8.out.size
        have o2 : OwnM w10 w.heap.size 5 (.slice (some ⟨b2, 0, none⟩) len k2) bs := by rw [← HL.out]; exact (given_ownM (Given.frm F2.out hF (by decide))).lower HB8.out.size
        have o3 : OwnM w10 w.heap.size 5 (.slice (some ⟨g3, 0, none⟩) len c3) bs := by
          have h := (ownM_front (hO_frm HO.out hF) (by rw [List.length_append, HL.out]; rfl)).lower (show w.heap.size ≤ w2.heap.size by omega)
          rwa [HL.out] at h
        have hallo : ∀ j, j < 4 → ∃ xs : List Nat, xs.length = len ∧ OwnM w10 w.heap.size 5 (four (.slice (some ⟨b0, 0, none⟩) len k0) (.slice (some ⟨b1, 0, none⟩) len k1) (.slice (some ⟨b2, 0, none⟩) len k2) (.slice (some ⟨g3, 0, none⟩) len c3) j) xs :=
          four_cases ⟨bs, HL.out, o0⟩ ⟨bs, HL.out, o1⟩ ⟨bs, HL.out, o2⟩ ⟨bs, HL.out, o3⟩
        have hdist : Distinct 4 (four (.slice (some ⟨b0, 0, none⟩) len k0) (.slice (some ⟨b1, 0, none⟩) len k1) (.slice (some ⟨b2, 0, none⟩) len k2) (.slice (some ⟨g3, 0, none⟩) len c3)) :=
          distinct_four (A := b0) (B := b1) (C := b2) (D := g3) rfl rfl rfl rfl (by omega) (by omega) (by omega) (by omega) (by omega) (by omega)
        obtain ⟨cur, hgc, htk⟩ : ∃ cur, w10.heap[g']? = some (.cells cur 32 (0, 0)) ∧ cur.toList.take (4 * 1) = [.slice (some ⟨b0, 0, none⟩) len k0, .slice (some ⟨b1, 0, none⟩) len k1, .slice (some ⟨b2, 0, none⟩) len k2, .slice (some ⟨g3, 0, none⟩) len c3] := by
          rcases q3.2 with ⟨hv', _⟩ | ⟨g'', cap'', cur, hv', _, hg, _, _, _, ht⟩
          · cases hv'
          · simp only [Value.slice.injEq, Option.some.injEq, Addr.mk.injEq, and_true, true_and] at hv'
            obtain ⟨rfl, rfl⟩ := hv'
            exact ⟨cur, hg, ht⟩
        have hcur : ∀ j, j < 4 → cur[j]? = some (four (.slice (some ⟨b0, 0, none⟩) len k0) (.slice (some ⟨b1, 0, none⟩) len k1) (.slice (some ⟨b2, 0, none⟩) len k2) (.slice (some ⟨g3, 0, none⟩) len c3) j) := by
          have hg' : ∀ j, j < 4 → cur[j]? = (cur.toList.take (4 * 1))[j]? := fun j hj => by rw [List.getElem?_take, if_pos (by omega)]; simp
          exact four_cases (by rw [hg' 0 (by decide), htk]; rfl) (by rw [hg' 1 (by decide), htk]; rfl) (by rw [hg' 2 (by decide), htk]; rfl) (by rw [hg' 3 (by decide), htk]; rfl)
        have hs10 : w.heap.size ≤ w10.heap.size := Nat.le_trans hsW hF.size
        have CA := Lib.hid (apart_calls 4 (by decide) (four (.slice (some ⟨b0, 0, none⟩) len k0) (.slice (some ⟨b1, 0, none⟩) len k1) (.slice (some ⟨b2, 0, none⟩) len k2) (.slice (some ⟨g3, 0, none⟩) len c3)) (fun _ => len) (fun j _ => by omega) g' cap' cur (0, 0) w.heap.size w10 hs10 hcur hgc hdist hallo)
        have hP10 : Post w10 w.heap.size w1.heap.size 2 [⟨0, 0, str bs⟩, ⟨0, 0, str bs⟩, ⟨0, 0, str bs⟩] := HP8.out.frm hFR2 (by decide) (by decide)
        have HP10 := Lib.hid hP10
        have HOWN : Hid (∀ j, j < 4 → ∃ xs, OwnM w10 w.heap.size 5 (four (.slice (some ⟨b0, 0, none⟩) len k0) (.slice (some ⟨b1, 0, none⟩) len k1) (.slice (some ⟨b2, 0, none⟩) len k2) (.slice (some ⟨g3, 0, none⟩) len c3) j) xs) := fun j hj => by
          obtain ⟨xs, _, h⟩ := hallo j hj
          exact ⟨xs, h⟩
        have HB10 := Lib.hid (HB8.out.trans hFR2.low)
        have HK10 := Lib.hid (q4.same D _ HK.out rfl)
        have hD10 : D < w10.heap.size := lt_of_at HK10.out
        have HW10 := Lib.hid hw10
        clear hF hFR2 o0 o1 o2 o3 hallo hdist hcur hgc htk hP10 q1 q2 q3 q4 q5 hv hrow' hown' hgrow hc6 hf6 hc1 hf1 HFR HO HK F0 F1 F2 hw10
        rw [HW10.out]
        refine ⟨trivial, ?_⟩
        refine (callsIn_wide.2 CA.out).mono ?_
        rintro e w11 ⟨rfl, hL11⟩
        have hP11 := post_leaves HP10.out hL11 HOWN.out
        have hB11 := HB10.out.trans hL11.1
        have hK11 : w11.heap[D]? = some (.deferred (some [])) := (hL11.2 D hD10 (fun j hj e => by
          obtain ⟨xs, hx⟩ := HOWN.out j hj
          rcases hx.other HK10.out (fun cur fz h => by cases h) with h1 | h1
          · rw [h1] at e; cases e
          · exact h1 e)).trans HK10.out
        have HP11 := Lib.hid hP11
        have HB11 := Lib.hid hB11
        have HK11 := Lib.hid hK11
        clear hL11 hP11 hB11 hK11 CA HOWN HP10 HB10 HK10 hD10
        have HSB : Hid ((⟨0, 0, str bs⟩ : Msg).s.size ≤ 65536) := by
          show (str bs).size ≤ _
          unfold str; show (bs.map UInt8.ofNat).toArray.size ≤ _
          have := HL.out
          simp; omega
        have HA0 : Hid (After w w1.heap.size D [⟨0, 0, str bs⟩, ⟨0, 0, str bs⟩, ⟨0, 0, str bs⟩] w11) := ⟨HP11.out, HB11.out, HK11.out⟩
        have hbl : bytesOf (⟨0, 0, str bs⟩ : Msg).s = bs := bytesOf_str HI.out.lt
        have HBL := Lib.hid hbl
        have CT := Lib.hid (take_calls w.heap.size w1.heap.size 2 [⟨0, 0, str bs⟩, ⟨0, 0, str bs⟩, ⟨0, 0, str bs⟩] w11 HP11.out HB11.out.size 0 ⟨0, 0, str bs⟩ rfl HSB.out)
        have hs011 : w.heap.size ≤ w11.heap.size := HB11.out.size
        clear HP11 HB11 HK11 hbl
        gi_wp2_with fail
        refine ⟨trivial, ?_⟩
        refine (callsIn_wide.2 CT.out).mono ?_
        rintro e w12 ⟨u1, rfl, hG, hP, hF, hko⟩
        rw [HBL.out] at hG
        obtain ⟨d1, e1, rfl, hd1, hd1'⟩ := hG.own
        rw [HL.out] at hG ⊢
        obtain ⟨w13, hw13⟩ : ∃ w13, w12.alloc (.cells #[.int .i64 0, .int .i64 0, .slice (some ⟨d1, 0, none⟩) len e1] 34) = w13 := ⟨_, rfl⟩
        have hb13 : Below w12.heap.size w12 w13 := by rw [← hw13]; exact (Below.refl _ _).alloc (Nat.le_refl _) _
        have HA1 : Hid (After w w1.heap.size D [⟨0, 0, str bs⟩, ⟨0, 0, str bs⟩] w13) := by rw [← hw13]; exact HA0.out.take (m := ⟨0, 0, str bs⟩) hP hF hko
        have HT1 : Hid (Three w13 w12.heap.size (.int .i64 0) (.int .i64 0) (.slice (some ⟨d1, 0, none⟩) len e1) 34) := by rw [← hw13]; exact heap_alloc_new w12 _
        have HG1 : Hid (Given w13 w11.heap.size (.slice (some ⟨d1, 0, none⟩) len e1) bs) := hG.below hb13
        have hs13 : w12.heap.size + 1 = w13.heap.size := by rw [← hw13]; simp
        have hs12 := hF.size
        have HW13 := Lib.hid hw13
        have CT2 := Lib.hid (take_calls w.heap.size w1.heap.size 2 [⟨0, 0, str bs⟩, ⟨0, 0, str bs⟩] w13 HA1.out.post HA1.out.low.size 0 ⟨0, 0, str bs⟩ rfl HSB.out)
        have HS13 := Lib.hid hs13
        clear hG hP hF hko hb13 hw13 CT HA0 hs13
        gi_wp2_with fail
        refine ⟨trivial, ?_⟩
        rw [HW13.out]
        refine (callsIn_wide.2 CT2.out).mono ?_
        rintro e w14 ⟨u2, rfl, hG, hP, hF, hko⟩
        rw [HBL.out] at hG
        obtain ⟨d2, e2, rfl, hd2, hd2'⟩ := hG.own
        rw [HL.out] at hG ⊢
        obtain ⟨w15, hw15⟩ : ∃ w15, w14.alloc (.cells #[.int .i64 0, .int .i64 0, .slice (some ⟨d2, 0, none⟩) len e2] 34) = w15 := ⟨_, rfl⟩
        have hb15 : Below w14.heap.size w14 w15 := by rw [← hw15]; exact (Below.refl _ _).alloc (Nat.le_refl _) _
        have HA2 : Hid (After w w1.heap.size D [⟨0, 0, str bs⟩] w15) := by rw [← hw15]; exact HA1.out.take (m := ⟨0, 0, str bs⟩) hP hF hko
        have HT21 : Hid (Three w15 w12.heap.size (.int .i64 0) (.int .i64 0) (.slice (some ⟨d1, 0, none⟩) len e1) 34) := (HT1.out.frm hF (by decide)).below hb15
        have HT2 : Hid (Three w15 w14.heap.size (.int .i64 0) (.int .i64 0) (.slice (some ⟨d2, 0, none⟩) len e2) 34) := by rw [← hw15]; exact heap_alloc_new w14 _
        have HG21 : Hid (Given w15 w11.heap.size (.slice (some ⟨d1, 0, none⟩) len e1) bs) := (Given.frm HG1.out hF (by decide)).below hb15
        have HG2 : Hid (Given w15 w13.heap.size (.slice (some ⟨d2, 0, none⟩) len e2) bs) := hG.below hb15
        have hs15 : w14.heap.size + 1 = w15.heap.size := by rw [← hw15]; simp
        have hs14 := hF.size
        have HW15 := Lib.hid hw15
        have CT3 := Lib.hid (take_calls w.heap.size w1.heap.size 2 [⟨0, 0, str bs⟩] w15 HA2.out.post HA2.out.low.size 0 ⟨0, 0, str bs⟩ rfl HSB.out)
        have HS15 := Lib.hid hs15
        clear hG hP hF hko hb15 hw15 CT2 HA1 HT1 HG1 hs15
        gi_wp2_with fail
        refine ⟨trivial, ?_⟩
        rw [HW15.out]
        refine (callsIn_wide.2 CT3.out).mono ?_
        rintro e w16 ⟨u3, rfl, hG, hP, hF, hko⟩
        rw [HBL.out] at hG
        obtain ⟨d3, e3, rfl, hd3, hd3'⟩ := hG.own
        rw [HL.out] at hG ⊢
        obtain ⟨w17, hw17⟩ : ∃ w17, w16.alloc (.cells #[.int .i64 0, .int .i64 0, .slice (some ⟨d3, 0, none⟩) len e3] 34) = w17 := ⟨_, rfl⟩
        have hb17 : Below w16.heap.size w16 w17 := by rw [← hw17]; exact (Below.refl _ _).alloc (Nat.le_refl _) _
        have HA3 : Hid (After w w1.heap.size D [] w17) := by rw [← hw17]; exact HA2.out.take (m := ⟨0, 0, str bs⟩) hP hF hko
        have HT31 : Hid (Three w17 w12.heap.size (.int .i64 0) (.int .i64 0) (.slice (some ⟨d1, 0, none⟩) len e1) 34) := (HT21.out.frm hF (by decide)).below hb17
        have HT32 : Hid (Three w17 w14.heap.size (.int .i64 0) (.int .i64 0) (.slice (some ⟨d2, 0, none⟩) len e2) 34) := (HT2.out.frm hF (by decide)).below hb17
        have HT33 : Hid (Three w17 w16.heap.size (.int .i64 0) (.int .i64 0) (.slice (some ⟨d3, 0, none⟩) len e3) 34) := by rw [← hw17]; exact heap_alloc_new w16 _
        have HG31 : Hid (Given w17 w11.heap.size (.slice (some ⟨d1, 0, none⟩) len e1) bs) := (Given.frm HG21.out hF (by decide)).below hb17
        have HG32 : Hid (Given w17 w13.heap.size (.slice (some ⟨d2, 0, none⟩) len e2) bs) := (Given.frm HG2.out hF (by decide)).below hb17
        have HG33 : Hid (Given w17 w15.heap.size (.slice (some ⟨d3, 0, none⟩) len e3) bs) := hG.below hb17
        have hs17 : w16.heap.size + 1 = w17.heap.size := by rw [← hw17]; simp
        have hs16 := hF.size
        have HW17 := Lib.hid hw17
        have HS17 := Lib.hid hs17
        have hI17 := HI.out.on HA3.out.low
        have cS1 := same_true (.slice (some ⟨d1, 0, none⟩) len e1) (.slice A len cap) bs w17 HG31.out.bytes hI17
        have cS2 := same_true (.slice (some ⟨d2, 0, none⟩) len e2) (.slice A len cap) bs w17 HG32.out.bytes hI17
        have cS3 := same_true (.slice (some ⟨d3, 0, none⟩) len e3) (.slice A len cap) bs w17 HG33.out.bytes hI17
        have CS1 := Lib.hid cS1
        have CS2 := Lib.hid cS2
        have CS3 := Lib.hid cS3
        obtain ⟨-, -, t1, -⟩ := HT31.out.cells
        obtain ⟨-, -, t2, -⟩ := HT32.out.cells
        obtain ⟨-, -, t3, -⟩ := HT33.out.cells
        clear hG hP hF hko hb17 hw17 CT3 HA2 HT21 HT2 HG21 HG2 hs17 cS1 cS2 cS3 hI17
        gi_upto_region 19 with fail
        rw [HW17.out]
        gi_wp2_with fail
        refine ⟨trivial, ?_⟩
        refine (callsIn_wide.2 CS1.out).mono ?_
        rintro e W ⟨rfl, hW⟩
        rw [hW]
        clear hW W
        gi_wp2_with fail
        refine ⟨trivial, ?_⟩
        refine (callsIn_wide.2 CS2.out).mono ?_
        rintro e W ⟨rfl, hW⟩
        rw [hW]
        clear hW W
        gi_wp2_with fail
        refine ⟨trivial, ?_⟩
        refine (callsIn_wide.2 CS3.out).mono ?_
        rintro e W ⟨rfl, hW⟩
        rw [hW]
        clear hW W
        obtain ⟨w18, hw18⟩ : ∃ w18, w17.alloc (.cells #[.int .i64 0] 3) = w18 := ⟨_, rfl⟩
        have hb18 : Below w17.heap.size w17 w18 := by rw [← hw18]; exact (Below.refl _ _).alloc (Nat.le_refl _) _
        have HX18 : Hid (Boxed w18 w17.heap.size 3 (.int .i64 0)) := by rw [← hw18]; exact Boxed.new w17 _ _
        have HW18 := Lib.hid hw18
        have CN := Lib.hid (all_calls none w18)
        clear CS1 CS2 CS3 t1 t2 t3 hw18
        gi_upto_region 23 with fail
        rw [HW18.out]
        gi_wp2_with fail
        refine ⟨trivial, ?_⟩
        refine (callsIn_wide.2 CN.out).mono ?_
        rintro e w19 ⟨rfl, hbx, hb19⟩
        have hb1719 : Below w17.heap.size w17 w19 := hb18.trans (hb19.mono hb18.size)
        have HX19 : Hid (Boxed w19 w17.heap.size 3 (.int .i64 0)) := (hb19.block _ HX18.out.lt).trans HX18.out
        have HBX2 := Lib.hid hbx
        have HB1719 := Lib.hid hb1719
        have hlt19 : w18.heap.size < w19.heap.size := hbx.lt
        have hs1719 := hb1719.size
        clear hbx hb19 hb18 hb1719 HX18 CN
        gi_wp2_with fail
        refine wpIn_rangeFunc_toldH rfl h1 (gf := 34) (lb := #[.pointer (some ⟨w18.heap.size, 0, none⟩)]) rfl trivial (enters_of Try.func34 (by kernel_rfl) rfl)
          (nil_stops (n - 1) (by omega) w18.heap.size w19 HBX2.out) KM.trans (km_b (Nat.zero_le _)) (Below.refl _ _) (fun _ => rfl)
          (fun _ W => Below w19.heap.size w19 W) (fun _ _ _ => False) (ownFrom_below (Nat.le_refl _) (Nat.le_refl _)) (fun _ _ _ _ _ hs _ _ => hs) (fun _ _ _ _ _ hs _ _ => hs)
          (Below.refl _ _) (fun _ hg => frm_none (Nat.zero_le _) hg) (fun _ _ _ => False) (fun _ _ _ _ _ _ hs _ _ => hs) ?assign2 ?body2 ?done2 ?stop2
        case assign2 =>
          intro l pre x W K _ hG _
          exact hG.elim
        case body2 =>
          intro l pre x a' W _ hG
          exact hG.elim
        case stop2 =>
          rintro D c pre W _ _ h _
          exact h.elim
        case done2 =>
          rintro D2 ys W2 hD2 - hB2 hK2
          have hb1 := HB1719.out.trans (hB2.mono hs1719)
          have hX2 : Boxed W2 w17.heap.size 3 (.int .i64 0) := (hB2.block _ HX19.out.lt).trans HX19.out
          have hT1 := HT31.out.below hb1
          have hT2 := HT32.out.below hb1
          have hT3 := HT33.out.below hb1
          have HG41 := Lib.hid (HG31.out.below hb1)
          have HG42 := Lib.hid (HG32.out.below hb1)
          have HG43 := Lib.hid (HG33.out.below hb1)
          have hlo2 := HA3.out.low.trans (hb1.mono HA3.out.low.size)
          have hD1 : D < W2.heap.size := by have := lt_of_at HA3.out.rest; have := hb1.size; omega
          have hK1 : W2.heap[D]? = some (.deferred (some [])) := (hb1.block _ (lt_of_at HA3.out.rest)).trans HA3.out.rest
          have CT := Lib.hid (take_nil 0 W2)
          have HX2 := Lib.hid hX2
          have HT1 := Lib.hid hT1
          have HT2 := Lib.hid hT2
          have HT3 := Lib.hid hT3
          have HLO2 := Lib.hid hlo2
          have HK1 := Lib.hid hK1
          have HK2 := Lib.hid hK2
          have hDD : D ≠ D2 := by
            have := lt_of_at HA3.out.rest
            omega
          clear hb1 hX2 hT1 hT2 hT3 hlo2 hK1 hK2 HX19 HB1719 HA3 HG31 HG32 HG33 HT31 HT32 HT33 hB2
          gi_wp2_with fail
          refine ⟨trivial, ?_⟩
          refine (callsIn_wide.2 CT.out).mono ?_
          rintro e w20 ⟨rfl, hB20⟩
          obtain ⟨w21, hw21⟩ : ∃ w21, w20.alloc (.cells #[.int .i64 0, .int .i64 0, .slice none 0 0] 34) = w21 := ⟨_, rfl⟩
          have hb21 : Below W2.heap.size W2 w21 := by rw [← hw21]; exact hB20.trans (((Below.refl _ _).alloc (Nat.le_refl _) _).mono hB20.size)
          have hT1 := HT1.out.below hb21
          have hT2 := HT2.out.below hb21
          have hT3 := HT3.out.below hb21
          obtain ⟨-, -, t1, -⟩ := hT1.cells
          obtain ⟨-, -, t2, -⟩ := hT2.cells
          obtain ⟨-, -, t3, -⟩ := hT3.cells
          obtain ⟨w22, hw22⟩ : ∃ w22, w21.alloc (.cells #[.slice (some ⟨d1, 0, none⟩) len e1, .slice (some ⟨d2, 0, none⟩) len e2, .slice (some ⟨d3, 0, none⟩) len e3] 32) = w22 := ⟨_, rfl⟩
          have hb22 : Below W2.heap.size W2 w22 := by rw [← hw22]; exact hb21.trans (((Below.refl _ _).alloc (Nat.le_refl _) _).mono hb21.size)
          have hgc : w22.heap[w21.heap.size]? = some (.cells #[.slice (some ⟨d1, 0, none⟩) len e1, .slice (some ⟨d2, 0, none⟩) len e2, .slice (some ⟨d3, 0, none⟩) len e3] 32 (0, 0)) := by rw [← hw22]; exact heap_alloc_new w21 _
          have hlo22 := HLO2.out.trans (hb22.mono HLO2.out.size)
          have hs13' := HS13.out
          have hs15' := HS15.out
          have o1 : OwnM w22 w.heap.size 5 (.slice (some ⟨d1, 0, none⟩) len e1) bs := by rw [← HL.out]; exact (given_ownM (by rw [HL.out]; exact HG41.out.below hb22)).lower (by omega)
          have o2 : OwnM w22 w.heap.size 5 (.slice (some ⟨d2, 0, none⟩) len e2) bs := by rw [← HL.out]; exact (given_ownM (by rw [HL.out]; exact HG42.out.below hb22)).lower (by omega)
          have o3 : OwnM w22 w.heap.size 5 (.slice (some ⟨d3, 0, none⟩) len e3) bs := by rw [← HL.out]; exact (given_ownM (by rw [HL.out]; exact HG43.out.below hb22)).lower (by omega)
          have hallo : ∀ j, j < 3 → ∃ xs : List Nat, xs.length = len ∧ OwnM w22 w.heap.size 5 (four (.slice (some ⟨d1, 0, none⟩) len e1) (.slice (some ⟨d2, 0, none⟩) len e2) (.slice (some ⟨d3, 0, none⟩) len e3) (.slice none 0 0) j) xs :=
            three_cases ⟨bs, HL.out, o1⟩ ⟨bs, HL.out, o2⟩ ⟨bs, HL.out, o3⟩
          have hdist : Distinct 3 (four (.slice (some ⟨d1, 0, none⟩) len e1) (.slice (some ⟨d2, 0, none⟩) len e2) (.slice (some ⟨d3, 0, none⟩) len e3) (.slice none 0 0)) :=
            distinct_three (A := d1) (B := d2) (C := d3) rfl rfl rfl (by omega) (by omega) (by omega)
          have CA := Lib.hid (apart_calls 3 (by decide) (four (.slice (some ⟨d1, 0, none⟩) len e1) (.slice (some ⟨d2, 0, none⟩) len e2) (.slice (some ⟨d3, 0, none⟩) len e3) (.slice none 0 0)) (fun _ => len) (fun j _ => by omega) w21.heap.size 3 #[.slice (some ⟨d1, 0, none⟩) len e1, .slice (some ⟨d2, 0, none⟩) len e2, .slice (some ⟨d3, 0, none⟩) len e3] (0, 0) w.heap.size w22 hlo22.size (three_cases rfl rfl rfl) hgc hdist hallo)
          have HOWN : Hid (∀ j, j < 3 → ∃ xs, OwnM w22 w.heap.size 5 (four (.slice (some ⟨d1, 0, none⟩) len e1) (.slice (some ⟨d2, 0, none⟩) len e2) (.slice (some ⟨d3, 0, none⟩) len e3) (.slice none 0 0) j) xs) := fun j hj => by
            obtain ⟨xs, _, h⟩ := hallo j hj
            exact ⟨xs, h⟩
          have HX22 : Hid (Boxed w22 w17.heap.size 3 (.int .i64 0)) := (hb22.block _ HX2.out.lt).trans HX2.out
          have HK122 : Hid (w22.heap[D]? = some (.deferred (some []))) := (hb22.block _ (lt_of_at HK1.out)).trans HK1.out
          have HK222 : Hid (w22.heap[D2]? = some (.deferred (some []))) := (hb22.block _ (lt_of_at HK2.out)).trans HK2.out
          have HLO22 := Lib.hid hlo22
          have HW21 := Lib.hid hw21
          have HW22 := Lib.hid hw22
          clear hT1 hT2 hT3 hb21 hb22 hgc hlo22 o1 o2 o3 hallo hdist hw21 hw22 HT1 HT2 HT3 HG41 HG42 HG43 HX2 HK1 HK2 HLO2 CT hs13' hs15' hB20
          gi_upto_region 26 with fail
          rw [HW21.out]
          gi_wp2_with fail
          rw [HW22.out]
          refine ⟨trivial, ?_⟩
          refine (callsIn_wide.2 CA.out).mono ?_
          rintro e w23 ⟨rfl, hL23⟩
          have hX23 : Boxed w23 w17.heap.size 3 (.int .i64 0) := (leaves_cells hL23 HOWN.out HX22.out (by decide)).trans HX22.out
          have HK123 := Lib.hid (leaves_other hL23 HOWN.out HK122.out (fun _ _ h => by cases h))
          have HK223 := Lib.hid (leaves_other hL23 HOWN.out HK222.out (fun _ _ h => by cases h))
          have HLO23 := Lib.hid (HLO22.out.trans hL23.1)
          have hc23 := hX23.cell
          clear hL23 hX23 HX22 HK122 HK222 HLO22 CA HOWN t1 t2 t3
          gi_wp2_with fail
          refine ⟨trivial, ?_⟩
          refine (callsIn_wide.2 (send_nil 0 0 (.slice none 0 0) w23)).mono ?_
          rintro e w24 ⟨rfl, hB24⟩
          have HK124 : Hid (w24.heap[D]? = some (.deferred (some []))) := (hB24.block _ (lt_of_at HK123.out)).trans HK123.out
          have HK224 : Hid (w24.heap[D2]? = some (.deferred (some []))) := (hB24.block _ (lt_of_at HK223.out)).trans HK223.out
          have HLO24 := Lib.hid (HLO23.out.trans (hB24.mono HLO23.out.size))
          clear hB24 HK123 HK223 HLO23 hc23
          gi_wp2_with fail
          refine ⟨trivial, ?_⟩
          refine (callsIn_wide.2 (twice_nil 0 w24)).mono ?_
          rintro e W ⟨rfl, hW⟩
          rw [← hW]
          clear hW W
          gi_wp2_with fail
          refine ⟨trivial, ?_⟩
          refine (callsIn_wide.2 (spoil_nil 0 0 1 w24)).mono ?_
          rintro e W ⟨rfl, hW⟩
          rw [← hW]
          clear hW W
          gi_wp2_with fail
          refine ⟨trivial, ?_⟩
          refine (callsIn_wide.2 (lose_nil 0 w24)).mono ?_
          rintro e w25 ⟨rfl, hB25⟩
          have HK125 : Hid (w25.heap[D]? = some (.deferred (some []))) := (hB25.block _ (lt_of_at HK124.out)).trans HK124.out
          have HK225 : Hid (w25.heap[D2]? = some (.deferred (some []))) := (hB25.block _ (lt_of_at HK224.out)).trans HK224.out
          have HLO25 := Lib.hid (HLO24.out.trans (hB25.mono HLO24.out.size))
          clear hB25 HK124 HK224 HLO24
          gi_wp2_with fail
          refine ⟨trivial, ?_⟩
          refine (callsIn_wide.2 (len_nil w25)).mono ?_
          rintro e W ⟨rfl, hW⟩
          rw [← hW]
          clear hW W
          gi_wp2_with fail
          have hK1' : (w25.putObj D2 (.deferred none)).heap[D]? = some (.deferred (some [])) := (World.putObj_heap_other hDD).trans HK125.out
          refine ⟨by simp, .inl ⟨_, _, rfl, run_takeDeferred HK225.out, ?_⟩⟩
          refine ⟨by simp, .inl ⟨_, _, rfl, run_takeDeferred hK1', ?_⟩⟩
          refine ⟨_, results_tmp rfl _ _ _, rfl, ?_⟩
          exact (HLO25.out.trans (belowK_b (w := w) (Nat.le_refl _) w25 D2 _ _ (by have := HS13.out; have := HS15.out; have := HS17.out; omega) HK225.out rfl rfl)).trans (belowK_b (w := w) (Nat.le_refl _) _ D _ _ (by have := HB8.out.size; omega) hK1' rfl rfl)
    case stop =>
      rintro D c pre W _ _ h _
      exact h.elim

theorem mailKeeps_law (sv : Value) (bs : List Nat) (hreach : bs.length ≤ 140737488351232) (w : World) (hI : Bytes w.heap.size w sv bs) :
    Calls Try.prog 5 #[sv] w fun e W => e = .returned (.bool true) ∧ Below w.heap.size w W :=
  callsIn_wide.1 (mailKeeps_in 9 (by omega) sv bs hreach w hI)

end Go.Proofs.Ytjcgkjjomiapoaa.Mail
