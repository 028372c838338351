/-
  Contracts of slices.Clone at rows and of Take.
-/
import Derived.Test.YtlcmnemneghohaaDedupInsert
namespace Go.Proofs.Ytlcmnemneghohaa.Dedup
open Go Go.RowKit Go.Lib Go.Sort Go.Shelf Go.Proofs Go.Proofs.Ytlcmnemneghohaa.Law

/-- What a clone leaves. -/
def Cl (w : World) (l : List Rw) (e : Ending) (W : World) : Prop := ∃ v, e = .returned v ∧ OwnW W w.heap.size v l ∧ Below w.heap.size w W

set_option maxRecDepth 100000 in
set_option maxHeartbeats 2000000 in
theorem clone_calls (w : World) (v : Value) (l : List Rw) (h : OldW w.heap.size w v l) (hl : l.length * 24 ≤ 140737488355328) : Calls Try.prog 21 #[v] w (Cl w l) := by
  have q22 : ∀ (w : World) (a : Option Addr) (n c n' c' : Nat), (binOp .eql 22 (.slice a n c) (.slice none n' c')).run Try.prog w = .ok (.bool a.isNone) w := fun w a n c n' c' => Lib.run_eql_slice_nil w _ _ a n c n' c' Try.underlying22
  obtain ⟨A, cap, rfl, h2, h3, h4⟩ := id h
  cases A with
  | none =>
    have hl0 : l = [] := by
      rcases Nat.eq_zero_or_pos l.length with h0 | h0
      · exact List.eq_nil_of_length_eq_zero h0
      · obtain ⟨b, off, he, _⟩ := h4 h0
        cases he
    subst hl0
    have HF : Hid (Cl w [] (.returned (.slice none 0 0)) w) := Lib.hid ⟨_, rfl, OwnThree.nil _ _ _, Below.refl _ _⟩
    clear h h2 h3 h4 hl
    go_enter Try.func21, Try.ntmps21
    go_wp2_with fail
    go_ret
    exact HF.out
  | some a =>
    obtain ⟨i0, hi0, hz0, hzs, hzb⟩ := info_parts info_row
    have hB := alloc_low w (.cells #[] 42)
    have h00 : OwnW (w.alloc (.cells #[] 42)) w.heap.size (.slice (some ⟨w.heap.size, 0, none⟩) 0 0) [] := OwnThree.lit 42 w w.heap.size #[] [] 0 (Nat.le_refl _) rfl (by simp [maxLen]) rfl
    obtain ⟨v', W', hrun, hO, hG, _⟩ := OwnThree.appendAt (P := Try.prog) 22 (fun _ => rfl) (fun _ => rfl) (fun _ => rfl) Try.underlying22 hi0 hz0 hzs hzb rfl h00 hB.size (ThreeAt.low hB h) (by simp only [maxLen, List.length_nil]; omega) (by simpa using hl)
    have HF : Hid (Cl w l (.returned v') W') := Lib.hid ⟨v', rfl, by simpa using hO, hB.grown hG hB.size (fun k hk => by simp only [Value.ownBlock, Option.some.injEq] at hk; omega)⟩
    have HR := Lib.hid hrun
    generalize l.length = n at hrun HR ⊢
    clear h h2 h3 h4 hl hB h00 hrun hO hG
    go_enter Try.func21, Try.ntmps21
    go_wp2_with (at_builtin; refine wpList_append_ran rfl _ _ _ rfl rfl rfl HR.out ?_)
    go_ret
    exact HF.out

/-- A row's number is written. -/
theorem flat3_set (l : List Rw) (i : Nat) (x : Rw) (n : Int) (hx : l[i]? = some x) : (flatW l).set (i * 3 + 2) (.int .i64 n) = flatW (l.set i ⟨x.p, x.q, n⟩) := by
  induction l generalizing i with
  | nil => simp at hx
  | cons y r ih =>
    cases i with
    | zero =>
      obtain rfl : y = x := by simpa using hx
      rfl
    | succ k =>
      have := ih k (by simpa using hx)
      rw [show (k + 1) * 3 + 2 = k * 3 + 2 + 1 + 1 + 1 by omega]
      show _ :: _ :: _ :: (flatW r).set (k * 3 + 2) _ = _
      rw [this]
      rfl
theorem OwnThree.number {W : World} {base g len cap : Nat} {l : List Rw} (h : OwnW W base (.slice (some ⟨g, 0, none⟩) len cap) l) {i : Nat} {x : Rw} (hx : l[i]? = some x) (n : Int) :
    OwnW (W.setCell ⟨g, i * 3 + 2, none⟩ (.int .i64 n)) base (.slice (some ⟨g, 0, none⟩) len cap) (l.set i ⟨x.p, x.q, n⟩) ∧ W.grownBy (W.setCell ⟨g, i * 3 + 2, none⟩ (.int .i64 n)) (some g) := by
  have e1 : len = l.length := by
    obtain ⟨A, c, e1, _⟩ := h.form
    simp only [Value.slice.injEq] at e1
    exact e1.2.1
  subst e1
  have := World.ownsRow.stored h (i * 3 + 2) (.int .i64 n)
  refine ⟨?_, this.2⟩
  show World.ownsRow _ _ _ _ _ _ (flatW _)
  rw [List.length_set, ← flat3_set l i x n hx]
  exact this.1

/-- The rows behind a number, and what it is. -/
def takeL (l : List Rw) (p q seq : Int) : List Rw × Int := if rightN p q = true then (if lookL (lastL l p q) seq = 1 then (takeS l p q seq, 1) else (l, lookL (lastL l p q) seq)) else (l, 0)
/-- What Take answers. -/
def RetT (w : World) (r : List Rw × Int) (e : Ending) (W : World) : Prop := ∃ v, e = .returned (.tuple #[v, .int .i64 r.2]) ∧ OwnW W w.heap.size v r.1 ∧ Below w.heap.size w W

set_option maxRecDepth 1000000 in
set_option maxHeartbeats 8000000 in
theorem take_calls (l : List Rw) (hg : Good l) (p q seq : Int) (v : Value) (w : World) (hl : (l.length + 1) * 24 ≤ 140737488355328) (h : OldW w.heap.size w v l) (hr : -9223372036854775808 ≤ lastL l p q ∧ lastL l p q ≤ 9223372036854775807) (hs : -9223372036854775808 ≤ seq ∧ seq ≤ 9223372036854775807) :
    Calls Try.prog 14 #[v, .int .i64 p, .int .i64 q, .int .i64 seq] w (RetT w (takeL l p q seq)) := by
  have C1 := Lib.hid (clone_calls w v l h (by omega))
  have C2 := Lib.hid fun W => isOwner_calls p q W
  have HG := Lib.hid hg
  obtain ⟨A, cap, rfl, _⟩ := h.form
  have HW := Lib.hid h
  clear h
  go_enter Try.func14, Try.ntmps14
  go_wp2_with fail
  refine C1.out.mono ?_
  rintro e W1 ⟨v1, rfl, hO1, hB1⟩
  have HO1 := Lib.hid hO1
  have HB1 := Lib.hid hB1
  have C3 := Lib.hid (look_calls l p q seq v1 W1 (by omega) hO1.old hr hs)
  have C4 := Lib.hid fun W hW => place_calls l p q v1 W (by omega) (ThreeAt.on (B := W) hW hO1.old)
  obtain ⟨A1, c1, rfl, hc1⟩ := hO1.form
  clear hO1 hB1
  by_cases hrt : rightN p q = true
  · rw [hrt] at C2
    by_cases hlk : lookL (lastL l p q) seq = 1
    · have HRES : Hid (takeL l p q seq = (takeS l p q seq, 1)) := Lib.hid (by unfold takeL; rw [if_pos hrt, if_pos hlk])
      rw [hlk] at C3
      have HRT := Lib.hid hrt
      clear hlk hrt hr
      go_wp2_with fail
      refine (C2.out _).mono ?_
      rintro e W2 ⟨rfl, rfl⟩
      go_wp2_with fail
      refine C3.out.mono ?_
      rintro e W2 ⟨rfl, hB2⟩
      have HB2 := Lib.hid hB2
      clear hB2
      go_wp2_with fail
      refine (C4.out W2 HB2.out).mono ?_
      rintro e W3 ⟨i, f, rfl, hP, hB3⟩
      have HB3 : Hid (Below W1.heap.size W1 W3) := Lib.hid (HB2.out.trans (hB3.mono HB2.out.size))
      have hO3 := HO1.out.below HB3.out
      clear hB3
      rcases hP with ⟨rfl, x, hx, hi, hlow⟩ | ⟨rfl, hi, hno, h5, h6⟩
      · -- the row is there
        have hlt := (List.getElem?_eq_some_iff.1 hx).1
        obtain ⟨b, off, rfl, hb, hc⟩ := hO3.three.at (by omega)
        have hoff : off = 0 := by
          rcases hO3.2 with ⟨h1, _⟩ | ⟨g', cap', cur, h1, _⟩
          · cases h1
          · simp only [Value.slice.injEq, Option.some.injEq, Addr.mk.injEq, and_true] at h1
            exact h1.1.2
        subst hoff
        obtain ⟨k0, k1, k2⟩ := hc i x hx
        have kf : W3.frozen? ⟨b, i * 3 + 2, none⟩ = false := World.ownsRow.frozenAt hO3 _
        rw [Nat.zero_add] at k2
        obtain ⟨hN, hG⟩ := OwnThree.number hO3 hx seq
        have HF : Hid (RetT w (takeS l p q seq, 1) (.returned (.tuple #[.slice (some ⟨b, 0, none⟩) l.length c1, .int .i64 1])) (W3.setCell ⟨b, i * 3 + 2, none⟩ (.int .i64 seq))) := Lib.hid ⟨_, rfl, by
          rw [take_set HG.out HRT.out hx hi]
          obtain ⟨e1, e2⟩ := isIt_iff.1 hi
          rw [e1, e2] at hN
          exact hN, (HB1.out.trans (HB3.out.mono HB1.out.size)).grown hG (by have := HB1.out.size; have := HB3.out.size; omega) (fun k hk => by
            obtain rfl : b = k := by simpa using hk
            exact hb.1)⟩
        have hltI : (i : Int) < (l.length : Int) := by omega
        have HLT := Lib.hid hlt
        generalize l.length = n at hltI HF ⊢
        dsimp only [nV] at k2
        clear hN hG hc hb hO3 hx hi hlow k0 k1 C1 HW
        go_wp2_with fail
        go_ret2
        rw [HRES.out]
        exact HF.out
      · -- a new row
        have hB4 : Below W3.heap.size W3 (W3.alloc (.cells #[.int .i64 p, .int .i64 q, .int .i64 0] 42)) := alloc_low _ _
        have hO4 := hO3.below hB4
        have hne : (Value.slice A1 l.length c1).ownBlock ≠ some W3.heap.size := fun e => by
          have := (hO3.own e).2
          omega
        have CI := Lib.hid (insert_calls (W3.alloc (.cells #[.int .i64 p, .int .i64 q, .int .i64 0] 42)) w.heap.size i W3.heap.size 1 1 (.slice A1 l.length c1) l [⟨p, q, 0⟩] #[.int .i64 p, .int .i64 q, .int .i64 0] hO4 hi (by omega) rfl (by omega) (by have := HB1.out.size; have := HB3.out.size; simp; omega) (by omega) (heap_alloc_new W3 _) rfl hne)
        have HI := Lib.hid hi
        have HNO := Lib.hid hno
        have H5 := Lib.hid h5
        have H6 := Lib.hid h6
        have HB4 : Hid (Below w.heap.size w (W3.alloc (.cells #[.int .i64 p, .int .i64 q, .int .i64 0] 42))) := Lib.hid ((HB1.out.trans (HB3.out.mono HB1.out.size)).trans (hB4.mono (by have := HB1.out.size; have := HB3.out.size; omega)))
        generalize hnn : l.length = n at *
        have HN := Lib.hid hnn
        clear hnn hO3 hO4 hne hB4 hi hno h5 h6 C1 HW
        go_wp2_with fail
        refine CI.out.mono ?_
        rintro e W5 ⟨v5, rfl, hO5, hB5⟩
        have hlen5 : (l.take i ++ [(⟨p, q, 0⟩ : Rw)] ++ l.drop i).length = n + 1 := by
          have := HI.out
          simp only [List.length_append, List.length_take, List.length_drop, List.length_singleton, HN.out]
          omega
        obtain ⟨A5, c5, rfl, _⟩ := hO5.form
        rw [hlen5] at hO5 ⊢
        have hx : (l.take i ++ [(⟨p, q, 0⟩ : Rw)] ++ l.drop i)[i]? = some ⟨p, q, 0⟩ := by
          have e1 : (l.take i).length = i := by rw [List.length_take, HN.out]; have := HI.out; omega
          rw [List.append_assoc, List.getElem?_append_right (by omega), e1, Nat.sub_self]
          rfl
        have hset : (l.take i ++ [(⟨p, q, 0⟩ : Rw)] ++ l.drop i).set i ⟨p, q, seq⟩ = takeS l p q seq := by
          have e1 : (l.take i).length = i := by rw [List.length_take, HN.out]; have := HI.out; omega
          rw [take_insert HG.out HRT.out HNO.out (by rw [HN.out]; exact HI.out) (fun y h0 hy => Int.not_lt.2 (H5.out y h0 hy)) H6.out, List.append_assoc, List.set_append_right _ _ (by omega), e1, Nat.sub_self]
          rfl
        obtain ⟨b, off, rfl, hb, hc⟩ := hO5.three.at (by omega)
        have hoff : off = 0 := by
          rcases hO5.2 with ⟨h1, _⟩ | ⟨g', cap', cur, h1, _⟩
          · cases h1
          · simp only [Value.slice.injEq, Option.some.injEq, Addr.mk.injEq, and_true] at h1
            exact h1.1.2
        subst hoff
        obtain ⟨k0, k1, k2⟩ := hc i _ hx
        have kf : W5.frozen? ⟨b, i * 3 + 2, none⟩ = false := World.ownsRow.frozenAt (by have h := hO5; unfold OwnW OwnThree at h; rw [hlen5] at h; exact h) _
        rw [Nat.zero_add] at k2
        obtain ⟨hN, hG⟩ := OwnThree.number hO5 hx seq
        have HF : Hid (RetT w (takeS l p q seq, 1) (.returned (.tuple #[.slice (some ⟨b, 0, none⟩) (n + 1) c5, .int .i64 1])) (W5.setCell ⟨b, i * 3 + 2, none⟩ (.int .i64 seq))) := Lib.hid ⟨_, rfl, by
          rw [hset] at hN
          exact hN, (HB4.out.trans hB5).grown hG (by have := HB4.out.size; have := hB5.size; omega) (fun k hk => by
            obtain rfl : b = k := by simpa using hk
            exact hb.1)⟩
        have hltI : (i : Int) < ((n + 1 : Nat) : Int) := by have := HI.out; omega
        generalize n + 1 = n1 at hltI HF ⊢
        dsimp only [nV] at k2
        clear hN hG hc hb hO5 hx hset hlen5 k0 k1 hB5 CI
        go_wp2_with fail
        go_ret2
        rw [HRES.out]
        exact HF.out
    · have HRES : Hid (takeL l p q seq = (l, lookL (lastL l p q) seq)) := Lib.hid (by unfold takeL; rw [if_pos hrt, if_neg hlk])
      generalize lookL (lastL l p q) seq = z at C3 hlk HRES
      have hz : (z != 1) = true := by rw [bne_iff_ne]; exact hlk
      clear hlk hr
      go_wp2_with fail
      refine (C2.out _).mono ?_
      rintro e W2 ⟨rfl, rfl⟩
      go_wp2_with fail
      refine C3.out.mono ?_
      rintro e W2 ⟨rfl, hB2⟩
      have HF : Hid (RetT w (l, z) (.returned (.tuple #[.slice A1 l.length c1, .int .i64 z])) W2) := Lib.hid ⟨_, rfl, HO1.out.below hB2, HB1.out.trans (hB2.mono HB1.out.size)⟩
      clear hB2
      go_wp2_with fail
      go_ret2
      rw [HRES.out]
      exact HF.out
  · have hrf : rightN p q = false := by rw [Bool.eq_false_iff]; exact hrt
    rw [hrf] at C2
    have HRES : Hid (takeL l p q seq = (l, 0)) := Lib.hid (by unfold takeL; rw [if_neg hrt])
    have HF : Hid (RetT w (l, 0) (.returned (.tuple #[.slice A1 l.length c1, .int .i64 0])) W1) := Lib.hid ⟨_, rfl, HO1.out, HB1.out⟩
    clear hrt hrf hr
    go_wp2_with fail
    refine (C2.out _).mono ?_
    rintro e W2 ⟨rfl, rfl⟩
    go_wp2_with fail
    go_ret2
    rw [HRES.out]
    exact HF.out

end Go.Proofs.Ytlcmnemneghohaa.Dedup
