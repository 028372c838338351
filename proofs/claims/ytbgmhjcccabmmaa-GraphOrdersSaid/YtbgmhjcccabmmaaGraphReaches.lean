/-
  Contract of graph.Reaches.
-/
import Derived.Test.YtbgmhjcccabmmaaGraphWays
import Derived.Test.YtbgmhjcccabmmaaRoundHeld
namespace Go.Proofs.Ytbgmhjcccabmmaa.Graph
open Go Go.RowKit Go.Shelf Go.Lib Go.Proofs.Ytbgmhjcccabmmaa.Law

attribute [local go_sem] Oper.semAt_some

theorem info_rows : (Try.prog.info? 42).map (fun i => (i.zero, i.size, i.bytes)) = some (some (.slice none 0 0), 1, 24) := by kernel_rfl
theorem info_bool : (Try.prog.info? 4).map (fun i => (i.zero, i.size, i.bytes)) = some (some (.bool false), 1, 1) := by kernel_rfl

/-- What Reaches answers: all ways of a right graph, none of another. -/
def RetWays (w : World) (l : List Opr) (e : Ending) (W : World) : Prop :=
  (¬ goodG l ∧ e = .returned (.slice none 0 0) ∧ Below w.heap.size w W) ∨
  (goodG l ∧ ∃ (R : Nat) (B : Nat → Nat), e = .returned (.slice (some ⟨R, 0, none⟩) l.length l.length) ∧ Ways W w.heap.size R l.length 0 B (rB l) ∧ Below w.heap.size w W)

theorem made_of (z : Value) (hz : z.cells = #[z]) (n : Nat) : (madeCells z.cells (n * 1)).toList = (List.range n).map fun _ => z := by
  rw [hz, madeCells, Nat.mul_one, Array.toList_map, Array.toList_range]
  exact List.map_congr_left fun j _ => by simp [Nat.mod_one]
theorem made_rows (n : Nat) : (madeCells (Value.slice none 0 0).cells (n * 1)).toList = (outL n n fun _ => 0).map (oV n) := by
  rw [made_of _ rfl, outL, List.map_map]
  exact List.map_congr_left fun j hj => by
    have := List.mem_range.1 hj
    simp only [Function.comp]
    rw [if_neg (by omega)]
    rfl
theorem made_bools (n : Nat) : (madeCells (Value.bool false).cells (n * 1)).toList = (inL n fun _ => false).map Value.bool := by
  rw [made_of _ rfl, inL, List.map_map]
  rfl

/-- What lies as the rounds go on. -/
structure StI (w W : World) (l : List Opr) (R X n cap b off D k : Nat) : Prop where
  sz : D ≤ W.heap.size
  low : Below w.heap.size w W
  gb : W.heap[w.heap.size]? = some (.cells #[.slice (some ⟨b, off, none⟩) n cap] 24)
  xb : W.heap[X]? = some (.cells #[.slice (some ⟨R, 0, none⟩) n n] 40)
  wy : ∃ B, Ways W w.heap.size R n (n - k) B (rB l)

theorem StI.grown {w W W' : World} {l : List Opr} {R X n cap b off k D : Nat} (h : StI w W l R X n cap b off D k) (hD : w.heap.size ≤ D) {row : Option Nat} (hg : W.grownBy W' row)
    (hr : ∀ r, row = some r → D ≤ r ∧ ∃ o : Obj, W.heap[r]? = some o ∧ o.isCells = false) : StI w W' l R X n cap b off D k := by
  have key : ∀ {j : Nat} {cs : Array Value} {t : TypeId}, W.heap[j]? = some (.cells cs t) → W'.heap[j]? = W.heap[j]? := fun {j cs t} hj => hg.block j (lt_of_some hj) fun e => by
    obtain ⟨_, o, ho, hc⟩ := hr _ e.symm
    rw [hj] at ho
    cases ho
    cases hc
  obtain ⟨B, hB⟩ := h.wy
  exact ⟨Nat.le_trans h.sz hg.size, h.low.grown hg h.low.size fun k e => Nat.le_trans hD (hr k e).1, (key h.gb).trans h.gb, (key h.xb).trans h.xb, B, hB.grown hg fun r e => (hr r e).2⟩

theorem grown_of_low {n : Nat} {W W' : World} (h : Below n W W') (hn : W.heap.size ≤ n) (r : Option Nat) : W.grownBy W' r := ⟨h.os, h.tape, h.output, h.size, fun k hk _ => h.block k (by omega)⟩
theorem grown_more {W W' : World} {r : Option Nat} (h : W.grownBy W' none) : W.grownBy W' r := ⟨h.os, h.tape, h.output, h.size, fun k hk _ => h.block k hk (by simp)⟩
/-- What turns a block, or new ones. -/
theorem grown_new {A B C : World} {r : Option Nat} {j : Nat} (h : A.grownBy B r) (k : B.grownBy C (some j)) (hj : A.heap.size ≤ j) : A.grownBy C r :=
  ⟨k.os.trans h.os, k.tape.trans h.tape, k.output.trans h.output, Nat.le_trans h.size k.size, fun i hi hne => (k.block i (Nat.lt_of_lt_of_le hi h.size) (fun e => by simp only [Option.some.injEq] at e; omega)).trans (h.block i hi hne)⟩
theorem grown_set2 (W : World) (k i : Nat) (v : Value) : W.grownBy (W.setCell ⟨k, i, none⟩ v) (some k) :=
  ⟨rfl, rfl, rfl, by simp [World.setCell], fun j _ hne => Below.heap_setCell _ _ _ _ (fun e => hne (by rw [e]))⟩
theorem grown_drew2 (W : World) (r : Option Nat) : W.grownBy W.drew r := ⟨rfl, rfl, rfl, Nat.le_refl _, fun _ _ _ => rfl⟩

/-- The row of number i as the uses in pre have been joined to it. -/
noncomputable def Fi (l : List Opr) (ix : Nat) (pre : List (Nat × Nat)) (i j : Nat) : Bool := if i = ix then (decide (ix = j) || pre.any fun p => rB l p.1 j) else rB l i j
/-- .. and as the first k of the next one's have. -/
noncomputable def Gi (l : List Opr) (ix : Nat) (pre : List (Nat × Nat)) (u k i j : Nat) : Bool := if i = ix then ((decide (ix = j) || pre.any fun p => rB l p.1 j) || (decide (j < k) && rB l u j)) else rB l i j
theorem gi_start (l : List Opr) (ix : Nat) (pre : List (Nat × Nat)) (u i j : Nat) : Fi l ix pre i j = Gi l ix pre u 0 i j := by
  unfold Fi Gi
  split <;> simp
theorem gi_next (l : List Opr) (ix : Nat) (pre : List (Nat × Nat)) (u k i j : Nat) : (if i = ix ∧ j = k then (Gi l ix pre u k ix k || rB l u k) else Gi l ix pre u k i j) = Gi l ix pre u (k + 1) i j := by
  unfold Gi
  by_cases hi : i = ix
  · subst hi
    by_cases hj : j = k
    · subst hj; simp
    · by_cases hjk : j < k
      · have : j < k + 1 := by omega
        simp [hj, hjk, this]
      · have : ¬ j < k + 1 := by omega
        simp [hj, hjk, this]
  · simp [hi]
theorem gi_end (l : List Opr) (ix : Nat) (pre : List (Nat × Nat)) (u ui n i j : Nat) (hj : j < n) : Gi l ix pre u n i j = Fi l ix (pre ++ [(u, ui)]) i j := by
  unfold Gi Fi
  split
  · simp [List.any_append, hj, Bool.or_assoc]
  · rfl
theorem fi_start (l : List Opr) (ix i j : Nat) : (if i = ix then decide (ix = j) else rB l i j) = Fi l ix [] i j := by
  unfold Fi
  split <;> simp
theorem fi_end (l : List Opr) (ix i j : Nat) : Fi l ix (usesL l (ix : Int)) i j = rB l i j := by
  unfold Fi
  split
  · rename_i h
    subst h
    rw [← rB_head]
  · rfl
theorem grown_beyond {A B C : World} {r row : Option Nat} (h : A.grownBy B r) (k : B.grownBy C row) (hj : ∀ j, row = some j → A.heap.size ≤ j) : A.grownBy C r :=
  ⟨k.os.trans h.os, k.tape.trans h.tape, k.output.trans h.output, Nat.le_trans h.size k.size, fun i hi hne => (k.block i (Nat.lt_of_lt_of_le hi h.size) (fun e => by have := hj i e.symm; omega)).trans (h.block i hi hne)⟩

set_option maxRecDepth 100000 in
set_option maxHeartbeats 16000000 in
theorem reaches_in (q : Nat) (hq : 9 ≤ q) (l : List Opr) (hl : l.length * 72 ≤ 140737488351232) (hin : ∀ x ∈ l, x.ins.length * 8 ≤ 140737488351232) (v : Value) (w : World) (h : OldO w.heap.size w v l) :
    CallsIn Fence.wide q Try.prog 13 #[.agg #[v]] w (RetWays w l) := by
  have h1 : 1 ≤ q := by omega
  obtain ⟨A, cap, rfl, hcap⟩ := h.form
  obtain ⟨n, hn⟩ : ∃ n, l.length = n := ⟨_, rfl⟩
  obtain ⟨w0, hw0⟩ : ∃ w0, w.alloc (.cells #[.slice A n cap] 24) = w0 := ⟨_, rfl⟩
  have hB0 : Below w.heap.size w w0 := by rw [← hw0]; exact alloc_low _ _
  have hb0 : w0.heap[w.heap.size]? = some (.cells #[.slice A n cap] 24) := by rw [← hw0]; exact heap_alloc_new w _
  have hs0 : w0.heap.size = w.heap.size + 1 := by rw [← hw0]; simp
  obtain ⟨c0, _⟩ := box1 hb0
  have CC := check_calls l hl hin _ w0 (h.on hB0)
  rw [hn] at h CC hcap ⊢
  have HCC := Lib.hid CC
  have HL := Lib.hid hn
  have HI := Lib.hid h
  have HIN := Lib.hid hin
  have HW := Lib.hid hw0
  have HB0 := Lib.hid hB0
  have HBX := Lib.hid hb0
  have HS0 := Lib.hid hs0
  clear CC hn h hin hw0 hB0 hb0 hs0
  refine callsIn_of_wp_marks Try.func13 rfl trivial ?_ rfl
  simp only [Try.ntmps13, List.size_toArray, List.length_cons, List.length_nil, Nat.reduceAdd, Nat.reduceSub, Array.replicate_succ, Array.replicate_zero, List.push_toArray, List.append_toArray, List.nil_append, List.cons_append]
  gi_wp2_with fail
  rw [HW.out]
  refine ⟨trivial, ?_⟩
  refine (callsIn_wide.2 HCC.out).mono ?_
  rintro e w1 ⟨i, er, rfl, hc, B1⟩
  have hbx1 := (B1.block w.heap.size (by have := HS0.out; omega)).trans HBX.out
  obtain ⟨d0, _⟩ := box1 hbx1
  have HBX1 := Lib.hid hbx1
  have HB1 := Lib.hid (HB0.out.trans (B1.mono HB0.out.size))
  by_cases he : er = 0
  · have hg := hc.good.1 he
    subst he
    have HG := Lib.hid hg
    have hn1 : 1 ≤ n := by have := hg.1; rw [HL.out] at this; exact this
    have hn16 : n ≤ 16 := by have := hg.2.1; rw [HL.out] at this; exact this
    clear hbx1 B1 hc hg c0
    obtain ⟨i0, hi, hz0, hz1, hz2⟩ := info_parts info_rows
    obtain ⟨w2, hrun, hown, hg2⟩ := run_makeSlice_full (P := Try.prog) (w := w1) w.heap.size 40 42 i0 (.slice none 0 0) 1 Try.underlying40 hi hz0 hz1 .i64 .i64 n (by omega) (by rw [hz2]; omega) (by unfold maxLen; omega) (by have := HB1.out.size; omega)
    obtain ⟨b, off, rfl, hbw, hcells⟩ := HI.out.at (by omega)
    obtain ⟨R, hR⟩ : ∃ R, w1.heap.size = R := ⟨_, rfl⟩
    obtain ⟨X, hX⟩ : ∃ X, w2.heap.size = X := ⟨_, rfl⟩
    rw [hR] at hrun hown
    rw [made_rows] at hown
    have hown2 : OwnRow (oV n) 42 w2 w.heap.size (.slice (some ⟨R, 0, none⟩) n n) (outL n n fun _ => 0) := by
      unfold OwnRow
      rw [outL_length]
      exact hown
    have hRX : R < X := by rw [← hX]; exact (hown2.own rfl).2
    have hRg : w.heap.size < R := by rw [← hR]; exact lt_of_some HBX1.out
    obtain ⟨w3, hw3⟩ : ∃ w3, w2.alloc (.cells #[.slice (some ⟨R, 0, none⟩) n n] 40) = w3 := ⟨_, rfl⟩
    have hB3 : Below w2.heap.size w2 w3 := by rw [← hw3]; exact alloc_low _ _
    have hx3 : w3.heap[X]? = some (.cells #[.slice (some ⟨R, 0, none⟩) n n] 40) := by rw [← hw3, ← hX]; exact heap_alloc_new w2 _
    have hW3 : Ways w3 w.heap.size R n n (fun _ => 0) (rB l) := ⟨hown2.below hB3, fun i h1 h2 => by omega, fun i h1 h2 => by omega, fun i j h1 h2 => by omega⟩
    have hB13 : Below w.heap.size w w3 := (HB1.out.grown hg2 HB1.out.size (fun k e => by cases e)).trans (hB3.mono (by have := HB1.out.size; have := hg2.size; omega))
    have hg3 : w3.heap[w.heap.size]? = some (.cells #[.slice (some ⟨b, off, none⟩) n cap] 24) := by
      have h1 := lt_of_some HBX1.out
      exact (hB3.block _ (by have := hg2.size; omega)).trans ((hg2.block _ h1 (by simp)).trans HBX1.out)
    have hwl : w.heap.size < w2.heap.size := by have := lt_of_some HBX1.out; have := hg2.size; omega
    obtain ⟨f0, _⟩ := box1 ((hg2.block _ (lt_of_some HBX1.out) (by simp)).trans HBX1.out)
    have HRUN := Lib.hid hrun
    have HW3 := Lib.hid hw3
    have HX3 := Lib.hid hx3
    have HWY := Lib.hid hW3
    have HB3 := Lib.hid hB13
    have HG3 := Lib.hid hg3
    have HC := Lib.hid hcells
    have HXX := Lib.hid hX
    clear hown hown2 hrun hw3 hx3 hW3 hB13 hg3 hB3 hcells hR hg2 hX
    have hrun := HRUN.out
    gi_wp2_with fail
    rw [HW3.out, HXX.out]
    refine ⟨trivial, ?_⟩
    refine (callsIn_wide.2 (backward_calls _ _ _ w3)).mono ?_
    rintro e w4 ⟨Bx, rfl, hbb, hBx, B4⟩
    clear f0 hwl hrun d0
    have hBxw : w3.heap.size ≤ Bx := hBx
    have hW34 := HB3.out.trans (B4.mono HB3.out.size)
    have hst0 : StI w w4 l R X n cap b off w4.heap.size 0 := ⟨Nat.le_refl _, hW34, (B4.block _ (lt_of_some HG3.out)).trans HG3.out, (B4.block _ (lt_of_some HX3.out)).trans HX3.out, fun _ => 0, HWY.out.below B4⟩
    have hX4 : X < w4.heap.size := lt_of_some hst0.xb
    have hw4 : w.heap.size < w4.heap.size := lt_of_some hst0.gb
    have hR4 : R < w4.heap.size := by obtain ⟨B, hB⟩ := hst0.wy; exact hB.lt.2
    have hRw : w.heap.size ≤ R := by obtain ⟨B, hB⟩ := hst0.wy; exact hB.lt.1
    have hBx4 : Bx < w4.heap.size := lt_of_some hbb
    have hRx : R < Bx := Nat.lt_of_lt_of_le HWY.out.lt.2 hBx
    have HBS := Lib.hid (back_stops (q - 1) (by omega) Bx b off n cap l HL.out hcap (by omega) w4 hbb (by omega) (fun j x hx => by
      obtain ⟨u, hu, _⟩ := HC.out j x hx
      exact ⟨u, hu.keep (hW34.block b hbw)⟩))
    have HST0 := Lib.hid hst0
    clear hbb hst0 B4 hW34 hBx
    gi_wp2_with fail
    refine wpIn_rangeFunc_toldHR rfl h1 (gf := 31) (lb := #[.pointer (some ⟨Bx, 0, none⟩)]) rfl trivial (enters_of Try.func31 (by kernel_rfl) rfl)
      HBS.out KeepD.trans (fun W l o o' hl hlo _ _ => ⟨by simp, World.putObj_heap_other (by omega), World.putObj_heap_other (by omega)⟩) (Below.refl _ _) (fun _ => rfl)
      (fun pre W => StI w W l R X n cap b off w4.heap.size pre.length) (fun _ _ _ => False)
      (fun s A B row hs hg hr => hs.grown (by omega) hg hr) (fun _ _ _ _ _ hs _ _ => hs) (fun _ _ _ _ _ _ _ _ => trivial) HST0.out
      (fun {A B} hA hg => ⟨hg.size, hg.block _ (by omega) (by simp), hg.block _ (by omega) (by simp)⟩)
      (fun x a' W => ∃ p, w4.heap.size ≤ p ∧ W.heap[p]? = some (.cells #[.int .i64 (x.1 : Nat)] 3) ∧ a' = { tmps := List.toArray ((.agg #[.slice (some ⟨b, off, none⟩) n cap]) :: (.pointer (some ⟨w.heap.size, 0, none⟩)) :: (.slice none 0 0) :: (.int .i64 i) :: (.int .i64 0) :: (.pointer (some ⟨X, 0, none⟩)) :: (.pointer (some ⟨p, 0, none⟩)) :: (undef) :: (undef) :: (undef) :: (.tuple #[.int .i64 i, .int .i64 0]) :: (.agg #[.slice (some ⟨b, off, none⟩) n cap]) :: (.tuple #[.int .i64 i, .int .i64 0]) :: (.int .i64 i) :: (.int .i64 0) :: (.int .i64 0) :: (.bool false) :: (.pointer (some ⟨w.heap.size, 0, none⟩)) :: (.slice (some ⟨b, off, none⟩) n cap) :: (.int .i64 (n : Nat)) :: (.slice (some ⟨R, 0, none⟩) n n) :: (.pointer (some ⟨w.heap.size, 0, none⟩)) :: (.slice (some ⟨b, off, none⟩) n cap) :: (.func (.func 31) #[] #[.pointer (some ⟨Bx, 0, none⟩)]) :: (.int .i64 (x.1 : Nat)) :: (x.2) :: (undef) :: (undef) :: (undef) :: (undef) :: (undef) :: (undef) :: (undef) :: (undef) :: (undef) :: (undef) :: (undef) :: (undef) :: (undef) :: (undef) :: (undef) :: (undef) :: (undef) :: (undef) :: (undef) :: (undef) :: (undef) :: (undef) :: (undef) :: (undef) :: (undef) :: (undef) :: (undef) :: (undef) :: (undef) :: (undef) :: (undef) :: (undef) :: (undef) :: (undef) :: (undef) :: (undef) :: (undef) :: (undef) :: (undef) :: (undef) :: (undef) :: (undef) :: (undef) :: (undef) :: (undef) :: (undef) :: []), defers := [] })
      (fun x a' _ A B row hs hg hr => by
        obtain ⟨p, h2, h3, h4⟩ := hs
        refine ⟨p, h2, (hg.block _ (lt_of_some h3) (fun e => ?_)).trans h3, h4⟩
        obtain ⟨_, o, ho, hc⟩ := hr _ e.symm
        rw [h3] at ho
        cases ho
        cases hc)
      ?assign ?body ?done ?stop
    case stop =>
      rintro D c pre W hD - hF
      exact hF.elim
    case assign =>
      intro lp pre x W K hI _ hK
      have hsz := hI.sz
      obtain ⟨xi, xv⟩ := x
      gi_wp2
      exact hK _ _ (World.grownBy_alloc _ _ _) ⟨W.heap.size, hsz, heap_alloc_new W _, rfl⟩
    case body =>
      rintro lp pre ⟨ix, xv⟩ a' V hlp ⟨r0, hr0⟩ hI - ⟨p, hp4, hp, rfl⟩ hdn hlt
      have hix := hdn.last
      obtain ⟨k, hk⟩ : ∃ k, pre.length = k := ⟨_, rfl⟩
      have hpl : (pre ++ [((ix, xv) : Nat × Value)]).length = k + 1 := by rw [List.length_append, hk]; rfl
      rw [hk] at hI hix hlt
      dsimp only at hix hp
      obtain ⟨B, hW⟩ := hI.wy
      rw [show n - k = ix + 1 by omega] at hW
      have hixn : ix < n := by omega
      have hixI : (ix : Int) < (n : Int) := by omega
      have hn3 : 1 ≤ q - 1 - 1 := by omega
      have hsz := hI.sz
      obtain ⟨v0, _⟩ := box1 hI.xb
      obtain ⟨v1, _⟩ := box1 hp
      obtain ⟨v2, _⟩ := box1 hI.gb
      -- the new row
      obtain ⟨j0, hj, hj0, hj1, hj2⟩ := info_parts info_bool
      obtain ⟨V2, hrun, hown, hg⟩ := run_makeSlice_full (P := Try.prog) (w := V.drew) w.heap.size 42 4 j0 (.bool false) 1 Try.underlying42 hj hj0 hj1 .i64 .i64 n (by omega) (by rw [hj2]; omega) (by unfold maxLen; omega) (by show w.heap.size ≤ V.heap.size; omega)
      obtain ⟨bn, hbn⟩ : ∃ bn, V.heap.size = bn := ⟨_, rfl⟩
      rw [show V.drew.heap.size = bn from hbn] at hrun hown
      rw [made_bools] at hown
      have hown2 : OwnRow Value.bool 4 V2 w.heap.size (.slice (some ⟨bn, 0, none⟩) n n) (inL n fun _ => false) := by
        unfold OwnRow
        rw [inL_length]
        exact hown
      have hV2 : Ways V2 w.heap.size R n (ix + 1) B (rB l) := hW.drew.grown hg fun r e => by cases e
      have y0 := (hV2.cellO hixn).1
      rw [if_neg (by omega)] at y0
      have y1 := (hV2.cellO hixn).2
      have y2 := hV2.lt.2
      have hR4' : R < V.heap.size := by omega
      have u0 : V2.cell? ⟨X, 0, none⟩ = _ := (box1 ((hg.block X (by show X < V.heap.size; omega) (by simp)).trans hI.xb)).1
      have u1 : V2.cell? ⟨p, 0, none⟩ = _ := (box1 ((hg.block p (lt_of_some hp) (by simp)).trans hp)).1
      have u2 : V2.cell? ⟨w.heap.size, 0, none⟩ = _ := (box1 ((hg.block w.heap.size (by show w.heap.size < V.heap.size; omega) (by simp)).trans hI.gb)).1
      obtain ⟨WA, hWA⟩ : ∃ WA, V2.setCell ⟨R, ix, none⟩ (.slice (some ⟨bn, 0, none⟩) n n) = WA := ⟨_, rfl⟩
      have hsA : WA.heap.size = V2.heap.size := by rw [← hWA]; simp [World.setCell]
      have hoA : ∀ j, j ≠ R → WA.heap[j]? = V2.heap[j]? := fun j hj => by rw [← hWA]; exact Below.heap_setCell _ _ _ _ hj
      obtain ⟨B1, hB1, hA⟩ : ∃ B1 : Nat → Nat, B1 ix = bn ∧ Ways WA w.heap.size R n ix B1 (fun i j => if i = ix then false else rB l i j) := ⟨fun i => if i = ix then bn else B i, if_pos rfl, by
        rw [← hWA]; exact Ways.more hW.drew hixn (by show V.heap.size ≤ bn; omega) hg hown2⟩
      have hVA : V.grownBy WA (some R) := by
        have h1 : V.grownBy V2 (some R) := (grown_drew2 V _).trans (grown_more hg)
        rw [← hWA]
        exact h1.trans (grown_set2 _ _ _ _)
      have hbnA : bn < WA.heap.size := by have := hA.ltB (i := ix) (Nat.le_refl _) hixn; rw [hB1] at this; exact this.2
      have a0 := (box1 ((hVA.block X (by omega) (by simp only [ne_eq, Option.some.injEq]; omega)).trans hI.xb)).1
      have a1 := (box1 ((hVA.block p (lt_of_some hp) (by simp only [ne_eq, Option.some.injEq]; omega)).trans hp)).1
      have a3 := hA.cellY (Nat.le_refl _) hixn
      rw [hB1] at a3
      have a4 := hA.cellI (Nat.le_refl _) hixn hixn
      rw [hB1, if_pos rfl] at a4
      obtain ⟨a4, a5⟩ := a4
      obtain ⟨WB, hWB⟩ : ∃ WB, WA.drew.setCell ⟨bn, ix, none⟩ (.bool true) = WB := ⟨_, rfl⟩
      have hBB : Ways WB w.heap.size R n ix B1 (fun i j => if i = ix then decide (ix = j) else rB l i j) := by
        rw [← hWB, ← hB1]
        exact (hA.drew.setI (Nat.le_refl ix) hixn true).congr fun i j _ _ _ => by
          by_cases hi : i = ix
          · subst hi
            by_cases hj : j = i
            · subst hj; simp
            · simp [hj, Ne.symm hj]
          · simp [hi]
      have hVB : V.grownBy WB (some R) := by
        rw [← hWB]
        exact grown_new (hVA.trans (grown_drew2 _ _)) (grown_set2 _ _ _ _) (by omega)
      have hsB : WB.heap.size = WA.heap.size := by rw [← hWB]; simp [World.setCell]
      have hpbn : p < bn := by have := lt_of_some hp; omega
      have hbnV : bn = V.heap.size := hbn.symm
      have HBNV := Lib.hid hbnV
      clear hbnV
      have hXbn : X < bn := by omega
      have hBxbn : Bx < bn := by omega
      have hwbn : w.heap.size < bn := by omega
      have hRbn : R < bn := by omega
      have hVbn : V.heap.size ≤ bn := by omega
      have HRUN := Lib.hid hrun
      have HWA := Lib.hid hWA
      have HWB := Lib.hid hWB
      have HVB := Lib.hid hVB
      have HBB := Lib.hid hBB
      have HI' := Lib.hid hI
      have HP := Lib.hid hp
      have HK := Lib.hid hk
      have HPL := Lib.hid hpl
      have HDN := Lib.hid hdn
      have HB1 := Lib.hid hB1
      have HR0 := Lib.hid hr0
      clear hown hown2 hV2 hW hg hWA hWB hVA hVB hBB hI hp hk hpl hdn hrun hB1 hA hoA hr0 hsA hsB hbn
      gi_wp2_with fail
      have hrun := HRUN.out
      refine wpIn_round_held_tail (C := fun w' => w'.cell? ⟨X, 0, none⟩ = some (.slice (some ⟨R, 0, none⟩) n n) ∧ w'.cell? ⟨p, 0, none⟩ = some (.int .i64 (ix : Nat)) ∧ w'.cell? ⟨w.heap.size, 0, none⟩ = some (.slice (some ⟨b, off, none⟩) n cap)) [0, 1, 2, 3, 4] [5, 6, 7] 7 (by kernel_rfl) (by kernel_rfl) (by kernel_rfl) ⟨v0, v1, v2⟩ (fun QQ hQQ => ?_)
      have HQQ := Lib.hid hQQ
      clear hQQ
      iterate 5
        refine heldI_step (v := ?_) rfl (by rfl) (fun w' hw' => ?_) ?_
        rotate_left
        · obtain ⟨g0, g1, g2⟩ := hw'
          go_simp
          all_goals with_reducible rfl
        simp only [Act.put, List.getElem_toArray, List.getElem_cons_succ, List.getElem_cons_zero, List.setIfInBounds_toArray, List.set_cons_succ, List.set_cons_zero]
      refine heldI_nil ?_
      refine seqI_step rfl ?_
      simp only [List.getElem_toArray, List.getElem_cons_succ, List.getElem_cons_zero]
      go_wp2_with fail
      refine ⟨⟨u0, u1, u2⟩, ?_⟩
      refine seqI_step rfl ?_
      simp only [List.getElem_toArray, List.getElem_cons_succ, List.getElem_cons_zero]
      go_wp2_with fail
      refine ⟨⟨u0, u1, u2⟩, ?_⟩
      refine seqI_last rfl ?_
      simp only [List.getElem_toArray, List.getElem_cons_succ, List.getElem_cons_zero]
      go_wp2_with fail
      refine HQQ.out _ _ ?_
      clear HQQ hrun v0 v1 v2 u0 u1 u2 y0 y1
      rw [HWA.out]
      gi_wp2_with fail
      refine wpIn_round_held_tail (C := fun w' => w'.cell? ⟨X, 0, none⟩ = some (.slice (some ⟨R, 0, none⟩) n n) ∧ w'.cell? ⟨p, 0, none⟩ = some (.int .i64 (ix : Nat)) ∧ w'.cell? ⟨R, ix, none⟩ = some (.slice (some ⟨bn, 0, none⟩) n n)) [0, 1, 2, 3, 4] [5, 6] 6 (by kernel_rfl) (by kernel_rfl) (by kernel_rfl) ⟨a0, a1, a3⟩ (fun QQ hQQ => ?_)
      have HQQ := Lib.hid hQQ
      clear hQQ
      iterate 5
        refine heldI_step (v := ?_) rfl (by rfl) (fun w' hw' => ?_) ?_
        rotate_left
        · obtain ⟨g0, g1, g2⟩ := hw'
          go_simp
          all_goals with_reducible rfl
        simp only [Act.put, List.getElem_toArray, List.getElem_cons_succ, List.getElem_cons_zero, List.setIfInBounds_toArray, List.set_cons_succ, List.set_cons_zero]
      refine heldI_nil ?_
      refine seqI_step rfl ?_
      simp only [List.getElem_toArray, List.getElem_cons_succ, List.getElem_cons_zero]
      go_wp2_with fail
      refine ⟨⟨a0, a1, a3⟩, ?_⟩
      refine seqI_last rfl ?_
      simp only [List.getElem_toArray, List.getElem_cons_succ, List.getElem_cons_zero]
      go_wp2_with fail
      refine HQQ.out _ _ ?_
      clear HQQ a0 a1 a3 a4 a5
      have hWBe := HWB.out
      rw [World.setCell_drew] at hWBe
      rw [hWBe]
      clear hWBe
      have e0 := (box1 ((HVB.out.block p (lt_of_some HP.out) (by simp only [ne_eq, Option.some.injEq]; omega)).trans HP.out)).1
      have e1 := (box1 ((HVB.out.block w.heap.size (by omega) (by simp only [ne_eq, Option.some.injEq]; omega)).trans HI'.out.gb)).1
      have hlowB : Below w.heap.size w WB := HI'.out.low.grown HVB.out HI'.out.low.size fun r e => by cases e; exact hRw
      have CU := uses_calls l hl HIN.out (by have := insN_good HG.out; omega) (ix : Int) (.slice (some ⟨b, off, none⟩) n cap) WB ((OpsAt.low hlowB HI.out).mono fun j hj => by have := hlowB.size; omega)
      have HCU := Lib.hid CU
      have HLB := Lib.hid hlowB
      clear CU hlowB
      gi_wp2_with fail
      refine ⟨trivial, ?_⟩
      refine (CallsIn.inRound lp (callsIn_wide.2 HCU.out)).mono ?_
      rintro e W5 ⟨Bu, uv, rfl, hU, hBu⟩
      have hs5 := hU.low.size
      have hs3 := HVB.out.size
      have h5 : Ways W5 w.heap.size R n ix B1 (fun i j => if i = ix then decide (ix = j) else rB l i j) := HBB.out.below hU.low
      have hV5 : V.grownBy W5 (some R) := HVB.out.trans (grown_of_low hU.low (Nat.le_refl _) _)
      have hbn5 := h5.ltB (Nat.le_refl ix) hixn
      rw [HB1.out] at hbn5
      have hbnB := HBB.out.ltB (Nat.le_refl ix) hixn
      rw [HB1.out] at hbnB
      have hus := usesL_le l (ix : Int)
      have hin32 := insN_good HG.out
      have HIT := Lib.hid (iter_stops (q - 1 - 1 - 1) (by omega) Bu (Bu + 1) uv (usesL l (ix : Int)) (by omega) W5 hU.box hU.row)
      have hl5 : W5.heap[lp]? = some (.loop r0) := (hV5.block lp (lt_of_some HR0.out) (by simp only [ne_eq, Option.some.injEq]; omega)).trans HR0.out
      have huo : ∀ g, uv.ownBlock = some g → bn < g ∧ g < W5.heap.size := fun g hg => by have := hU.row.own hg; omega
      have HL5 := Lib.hid hl5
      have HUO := Lib.hid huo
      have H5 := Lib.hid h5
      have HV5 := Lib.hid hV5
      have HUX := Lib.hid hU
      clear hU h5 hV5 hl5 huo hus hin32 e0 e1
      gi_wp2_with fail
      have H5J : Hid (Ways W5 w.heap.size R n ix B1 (Fi l ix [])) := Lib.hid (H5.out.congr fun i j _ _ _ => fi_start l ix i j)
      refine wpIn_rangeFunc_toldN (l₀ := lp) (r₀ := r0) rfl HL5.out hn3 (gf := 21) (lb := #[.pointer (some ⟨Bu, 0, none⟩)]) rfl trivial (enters_of Try.func21 (by kernel_rfl) rfl)
        (SeqTold.inRound lp HIT.out) KeepB.trans (fun W l o o' hl hlo _ _ => ⟨by simp, fun g hg _ => World.putObj_heap_other (by have := HUO.out g hg; omega)⟩) (Below.refl _ _) (fun _ => rfl)
        (fun pre2 W => W5.grownBy W (some bn) ∧ Ways W w.heap.size R n ix B1 (Fi l ix pre2)) (fun _ _ _ => False)
        (fun s A B row hs hg hr => ⟨grown_beyond hs.1 hg fun j e => (hr j e).1, hs.2.grown hg fun r e => (hr r e).2⟩) (fun _ _ _ _ _ hs _ _ => hs) (fun _ _ _ _ _ _ _ _ => trivial)
        ⟨⟨rfl, rfl, rfl, Nat.le_refl _, fun _ _ _ => rfl⟩, H5J.out⟩ (fun {A B} _ hg => ⟨hg.size, fun g _ hlt => hg.block g hlt (by simp)⟩)
        (fun x a' _ => a' = { tmps := List.toArray ((.agg #[.slice (some ⟨b, off, none⟩) n cap]) :: (.pointer (some ⟨w.heap.size, 0, none⟩)) :: (.slice none 0 0) :: (.int .i64 i) :: (.int .i64 0) :: (.pointer (some ⟨X, 0, none⟩)) :: (.pointer (some ⟨p, 0, none⟩)) :: (.int .i64 (x.1 : Nat)) :: (undef) :: (undef) :: (.tuple #[.int .i64 i, .int .i64 0]) :: (.agg #[.slice (some ⟨b, off, none⟩) n cap]) :: (.tuple #[.int .i64 i, .int .i64 0]) :: (.int .i64 i) :: (.int .i64 0) :: (.int .i64 0) :: (.bool false) :: (.pointer (some ⟨w.heap.size, 0, none⟩)) :: (.slice (some ⟨b, off, none⟩) n cap) :: (.int .i64 (n : Nat)) :: (.slice (some ⟨R, 0, none⟩) n n) :: (.pointer (some ⟨w.heap.size, 0, none⟩)) :: (.slice (some ⟨b, off, none⟩) n cap) :: (.func (.func 31) #[] #[.pointer (some ⟨Bx, 0, none⟩)]) :: (.int .i64 (ix : Nat)) :: (xv) :: (.slice (some ⟨R, 0, none⟩) n n) :: (.int .i64 (ix : Nat)) :: (.pointer (some ⟨w.heap.size, 0, none⟩)) :: (.slice (some ⟨b, off, none⟩) n cap) :: (.int .i64 (n : Nat)) :: (.slice (some ⟨bn, 0, none⟩) n n) :: (.pointer (some ⟨R, ix, none⟩)) :: (.slice (some ⟨R, 0, none⟩) n n) :: (.int .i64 (ix : Nat)) :: (.pointer (some ⟨R, ix, none⟩)) :: (.slice (some ⟨bn, 0, none⟩) n n) :: (.int .i64 (ix : Nat)) :: (.pointer (some ⟨bn, ix, none⟩)) :: (.agg #[.slice (some ⟨b, off, none⟩) n cap]) :: (.int .i64 (ix : Nat)) :: (.func (.func 21) #[] #[.pointer (some ⟨Bu, 0, none⟩)]) :: (.int .i64 (x.1 : Nat)) :: (.int .i64 (x.2 : Nat)) :: (undef) :: (undef) :: (undef) :: (undef) :: (undef) :: (undef) :: (undef) :: (undef) :: (undef) :: (undef) :: (undef) :: (undef) :: (undef) :: (undef) :: (undef) :: (undef) :: (undef) :: (undef) :: (undef) :: (undef) :: (undef) :: (undef) :: (undef) :: (undef) :: (undef) :: (undef) :: (undef) :: (undef) :: []), defers := [] }) (fun _ _ _ _ _ _ hs _ _ => hs) ?assign2 ?body2 ?done2 ?stop2
      case stop2 =>
        rintro c pre2 W - hF
        exact hF.elim
      case assign2 =>
        intro l2 pre2 x W K _ _ hK
        obtain ⟨xu, xi⟩ := x
        gi_wp2
        exact hK _ _ ⟨rfl, rfl, rfl, Nat.le_refl _, fun _ _ _ => rfl⟩ rfl
      case body2 =>
        rintro l2 pre2 ⟨u, ui⟩ a' V2' hl2 - ⟨hg5, hJ⟩ - rfl ⟨kk, hkk⟩ -
        have hmem : (u, ui) ∈ usesL l (ix : Int) := List.mem_of_mem_take (i := kk) (by rw [← hkk]; simp)
        have hu := uses_fwd HG.out hmem
        rw [HL.out] at hu
        obtain ⟨hu1, hu2⟩ := hu
        dsimp only at hu1 hu2
        have huI : (u : Int) < (n : Int) := by omega
        have hs5' := hg5.size
        obtain ⟨bu, hbu⟩ : ∃ bu, B1 u = bu := ⟨_, rfl⟩
        have z0 := (box1 ((hg5.block X (by omega) (by simp only [ne_eq, Option.some.injEq]; omega)).trans ((HV5.out.block X (by omega) (by simp only [ne_eq, Option.some.injEq]; omega)).trans HI'.out.xb))).1
        have z1 := hJ.cellY (i := u) (by omega) hu2
        rw [hbu] at z1
        have hpb : p < bn := hpbn
        have HJ := Lib.hid hJ
        have HG5 := Lib.hid hg5
        have HBU := Lib.hid hbu
        clear hmem hkk hJ hg5 hbu
        gi_wp2_with fail
        gi_loopw [49] (fun i wr => ∃ j : Nat, i = .int .i64 j ∧ j ≤ n ∧ Hid (V2'.grownBy wr (some bn) ∧ Ways wr w.heap.size R n ix B1 (Gi l ix pre2 u j))) (fun i _ => n - (intOf i).toNat)
        case atStart => exact ⟨0, rfl, Nat.zero_le _, Lib.hid ⟨⟨rfl, rfl, rfl, Nat.le_refl _, fun _ _ _ => rfl⟩, HJ.out.congr fun i j _ _ _ => gi_start l ix pre2 u i j⟩⟩
        case round =>
          obtain ⟨j, rfl, hj, HR⟩ := hrel
          by_cases hjn : j < n
          · have hjI : (j : Int) < (n : Int) := by omega
            have g0 : wr.cell? ⟨X, 0, none⟩ = _ := (box1 ((HR.out.1.block X (by omega) (by simp only [ne_eq, Option.some.injEq]; omega)).trans ((HG5.out.block X (by omega) (by simp only [ne_eq, Option.some.injEq]; omega)).trans ((HV5.out.block X (by omega) (by simp only [ne_eq, Option.some.injEq]; omega)).trans HI'.out.xb)))).1
            have g1 : wr.cell? ⟨p, 0, none⟩ = _ := (box1 ((HR.out.1.block p (by omega) (by simp only [ne_eq, Option.some.injEq]; omega)).trans ((HG5.out.block p (by omega) (by simp only [ne_eq, Option.some.injEq]; omega)).trans ((HV5.out.block p (lt_of_some HP.out) (by simp only [ne_eq, Option.some.injEq]; omega)).trans HP.out)))).1
            have g2 := HR.out.2.cellY (i := ix) (Nat.le_refl _) hixn
            have g3 := HR.out.2.cellI (i := ix) (j := j) (Nat.le_refl _) hixn hjn
            have g5 := (HR.out.2.cellI (i := u) (j := j) (by omega) hu2 hjn).1
            have hlt := (HR.out.2.ltB (i := ix) (Nat.le_refl _) hixn).2
            have hsW := HR.out.1.size
            have hset := HR.out.2.setI (i := ix) (j := j) (Nat.le_refl _) hixn (Gi l ix pre2 u j ix j || rB l u j)
            have hr2 : Gi l ix pre2 u j u j = rB l u j := by unfold Gi; rw [if_neg (by omega)]
            rw [HB1.out] at g2 g3 hlt hset
            rw [HBU.out, hr2] at g5
            obtain ⟨g3, g4⟩ := g3
            obtain ⟨c, hc⟩ : ∃ c, Gi l ix pre2 u j ix j = c := ⟨_, rfl⟩
            obtain ⟨r, hr⟩ : ∃ r, rB l u j = r := ⟨_, rfl⟩
            rw [hc] at g3
            rw [hr] at g5
            have hnx : V2'.grownBy (wr.setCell ⟨bn, j, none⟩ (.bool (c || r))).drew (some bn) ∧ Ways (wr.setCell ⟨bn, j, none⟩ (.bool (c || r))).drew w.heap.size R n ix B1 (Gi l ix pre2 u (j + 1)) := by
              refine ⟨(HR.out.1.trans (grown_set2 _ _ _ _)).trans (grown_drew2 _ _), ?_⟩
              rw [hc, hr] at hset
              exact (hset.congr fun i' j' _ _ _ => by rw [← gi_next, hc, hr]).drew
            have HNX := Lib.hid hnx
            clear hnx hset hc hr hr2 HR
            gi_wp2_with fail
            cases c with
            | true =>
              refine wpIn_round_held_tail (C := fun w' => w'.cell? ⟨X, 0, none⟩ = some (.slice (some ⟨R, 0, none⟩) n n) ∧ w'.cell? ⟨p, 0, none⟩ = some (.int .i64 (ix : Nat)) ∧ w'.cell? ⟨R, ix, none⟩ = some (.slice (some ⟨bn, 0, none⟩) n n) ∧ w'.cell? ⟨bn, j, none⟩ = some (.bool true)) [0, 1, 2, 3, 4, 5, 6, 7, 8, 9, 10, 11, 12, 13, 14] [15, 16] 16 (by kernel_rfl) (by kernel_rfl) (by kernel_rfl) ⟨g0, g1, g2, g3⟩ (fun QQ hQQ => ?_)
              have HQQ := Lib.hid hQQ
              clear hQQ
              iterate 13
                refine heldI_step (v := ?_) rfl (by rfl) (fun w' hw' => ?_) ?_
                rotate_left
                · obtain ⟨g0, g1, g2, g3⟩ := hw'
                  go_simp
                  all_goals with_reducible rfl
                simp only [Act.put, List.getElem_toArray, List.getElem_cons_succ, List.getElem_cons_zero, List.setIfInBounds_toArray, List.set_cons_succ, List.set_cons_zero]
              refine heldI_skip rfl (by rfl) ?_
              simp only [Act.put, List.getElem_toArray, List.getElem_cons_succ, List.getElem_cons_zero, List.setIfInBounds_toArray, List.set_cons_succ, List.set_cons_zero]
              iterate 1
                refine heldI_step (v := ?_) rfl (by rfl) (fun w' hw' => ?_) ?_
                rotate_left
                · obtain ⟨g0, g1, g2, g3⟩ := hw'
                  go_simp
                  all_goals with_reducible rfl
                simp only [Act.put, List.getElem_toArray, List.getElem_cons_succ, List.getElem_cons_zero, List.setIfInBounds_toArray, List.set_cons_succ, List.set_cons_zero]
              refine heldI_nil ?_
              refine seqI_step rfl ?_
              simp only [List.getElem_toArray, List.getElem_cons_succ, List.getElem_cons_zero]
              go_wp2_with fail
              refine ⟨⟨g0, g1, g2, g3⟩, ?_⟩
              refine seqI_last rfl ?_
              simp only [List.getElem_toArray, List.getElem_cons_succ, List.getElem_cons_zero]
              go_wp2_with fail
              refine HQQ.out _ _ ?_
              clear HQQ
              gi_wp2_with fail
              go_roundw
              case rel => exact ⟨j + 1, by go_num, by omega, HNX⟩
              case measure => simp [intOf]; omega
            | false =>
              refine wpIn_round_held_tail (C := fun w' => w'.cell? ⟨X, 0, none⟩ = some (.slice (some ⟨R, 0, none⟩) n n) ∧ w'.cell? ⟨p, 0, none⟩ = some (.int .i64 (ix : Nat)) ∧ w'.cell? ⟨R, ix, none⟩ = some (.slice (some ⟨bn, 0, none⟩) n n) ∧ w'.cell? ⟨bn, j, none⟩ = some (.bool false)) [0, 1, 2, 3, 4, 5, 6, 7, 8, 9, 10, 11, 12, 13, 14] [15, 16] 16 (by kernel_rfl) (by kernel_rfl) (by kernel_rfl) ⟨g0, g1, g2, g3⟩ (fun QQ hQQ => ?_)
              have HQQ := Lib.hid hQQ
              clear hQQ
              iterate 13
                refine heldI_step (v := ?_) rfl (by rfl) (fun w' hw' => ?_) ?_
                rotate_left
                · obtain ⟨g0, g1, g2, g3⟩ := hw'
                  go_simp
                  all_goals with_reducible rfl
                simp only [Act.put, List.getElem_toArray, List.getElem_cons_succ, List.getElem_cons_zero, List.setIfInBounds_toArray, List.set_cons_succ, List.set_cons_zero]
              iterate 2
                refine heldI_step (v := ?_) rfl (by rfl) (fun w' hw' => ?_) ?_
                rotate_left
                · obtain ⟨g0, g1, g2, g3⟩ := hw'
                  go_simp
                  all_goals with_reducible rfl
                simp only [Act.put, List.getElem_toArray, List.getElem_cons_succ, List.getElem_cons_zero, List.setIfInBounds_toArray, List.set_cons_succ, List.set_cons_zero]
              refine heldI_nil ?_
              refine seqI_step rfl ?_
              simp only [List.getElem_toArray, List.getElem_cons_succ, List.getElem_cons_zero]
              go_wp2_with fail
              refine ⟨⟨g0, g1, g2, g3⟩, ?_⟩
              refine seqI_last rfl ?_
              simp only [List.getElem_toArray, List.getElem_cons_succ, List.getElem_cons_zero]
              go_wp2_with fail
              refine HQQ.out _ _ ?_
              clear HQQ
              gi_wp2_with fail
              go_roundw
              case rel => exact ⟨j + 1, by go_num, by omega, HNX⟩
              case measure => simp [intOf]; omega
          · obtain rfl : j = n := by omega
            have hend := HR.out.2.congr fun i' j' _ _ hj' => gi_end l ix pre2 u ui j i' j' hj'
            have hgr := HR.out.1
            have hgf := HG5.out.trans hgr
            have HEND := Lib.hid hend
            have HGF := Lib.hid hgf
            have HGR := Lib.hid hgr
            clear hend hgf hgr HR
            gi_wp2_with fail
            exact ⟨KeepsFrom.of_grownBy HGR.out (fun j' e => by cases e; omega), ⟨HGR.out.size, fun g hg hlt => HGR.out.block g hlt (by have := HUO.out g hg; simp only [ne_eq, Option.some.injEq]; omega)⟩, HGF.out, HEND.out⟩
      case done2 =>
        rintro xs W rfl ⟨hg5, hJ⟩
        have hVW : V.grownBy W (some R) := grown_new HV5.out hg5 (by omega)
        have hfin := hJ.congr fun i j _ _ _ => fi_end l ix i j
        have hsW := hVW.size
        refine ⟨KeepsFrom.of_grownBy hVW (fun j e => by cases e; omega), ⟨hsW, hVW.block Bx (by omega) (by simp only [ne_eq, Option.some.injEq]; omega), hVW.block b (by omega) (by simp only [ne_eq, Option.some.injEq]; omega)⟩, ?_⟩
        show StI w W l R X n cap b off w4.heap.size (pre ++ [((ix, xv) : Nat × Value)]).length
        rw [HPL.out]
        refine ⟨by omega, HI'.out.low.grown hVW HI'.out.low.size (fun r e => by cases e; exact hRw), (hVW.block w.heap.size (by omega) (by simp only [ne_eq, Option.some.injEq]; omega)).trans HI'.out.gb, (hVW.block X (by omega) (by simp only [ne_eq, Option.some.injEq]; omega)).trans HI'.out.xb, B1, ?_⟩
        rw [show n - (k + 1) = ix by omega]
        exact hfin
    case done =>
      rintro D xs W hD ⟨hdn, hxl⟩ hI hK
      rw [hxl, ] at hI
      obtain ⟨B, hB⟩ := hI.wy
      rw [Nat.sub_self] at hB
      obtain ⟨x0, _⟩ := box1 hI.xb
      have HK := Lib.hid hK
      have HLW := Lib.hid hI.low
      have HBB := Lib.hid hB
      clear hK hI hB hdn hxl
      gi_wp2
      refine ⟨by simp, .inl ⟨_, _, rfl, run_takeDeferred HK.out, ?_⟩⟩
      have hg := grownBy_putObj' W D (.deferred none)
      refine ⟨_, results_tmp rfl _ _ _, .inr ⟨HG.out, R, B, by rw [HL.out]; rfl, by rw [HL.out]; exact HBB.out.grown hg (fun r e => by cases e; exact ⟨_, HK.out, rfl⟩), ?_⟩⟩
      exact HLW.out.grown hg HLW.out.size fun k e => by cases e; omega
  · have hg : ¬ goodG l := fun h => he (hc.good.2 h)
    have hb : (er != 0) = true := bne_iff_ne.2 he
    clear hbx1 B1 hc c0
    gi_wp2_with fail
    exact ⟨_, results_tmp rfl _ _ _, .inl ⟨hg, rfl, HB1.out⟩⟩

theorem reaches_calls (l : List Opr) (hl : l.length * 72 ≤ 140737488351232) (hin : ∀ x ∈ l, x.ins.length * 8 ≤ 140737488351232) (v : Value) (w : World) (h : OldO w.heap.size w v l) :
    Calls Try.prog 13 #[.agg #[v]] w (RetWays w l) := callsIn_wide.1 (reaches_in 9 (Nat.le_refl _) l hl hin v w h)

end Go.Proofs.Ytbgmhjcccabmmaa.Graph
