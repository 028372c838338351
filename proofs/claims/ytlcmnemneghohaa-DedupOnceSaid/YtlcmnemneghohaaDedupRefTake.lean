/-
  Contract of the document's Take.
-/
import Derived.Test.YtlcmnemneghohaaDedupTake
namespace Go.Proofs.Ytlcmnemneghohaa.Dedup
open Go Go.RowKit Go.Lib Go.Sort Go.Shelf Go.Proofs Go.Proofs.Ytlcmnemneghohaa.Law

def doneS (l : List Rw) (K : Int) (k : Nat) : Bool := (l.take k).any (fun x => decide (K ≤ key x))
/-- What the document's loop has gathered behind k rows. -/
def outS (l : List Rw) (p q n : Int) (k : Nat) : List Rw :=
  (l.take k).filter (fun x => decide (key x < 8 * p + q)) ++ ((if doneS l (8 * p + q) k = true then [(⟨p, q, n⟩ : Rw)] else []) ++ (l.take k).filter (fun x => decide (8 * p + q < key x)))
theorem done_succ {l : List Rw} {K : Int} {k : Nat} {x : Rw} (hx : l[k]? = some x) : doneS l K (k + 1) = (doneS l K k || decide (K ≤ key x)) := by
  unfold doneS
  rw [take_snoc3 hx, List.any_append, List.any_cons, List.any_nil, Bool.or_false]
theorem done_false {l : List Rw} (h : Good l) {K : Int} {k : Nat} {x : Rw} (hx : l[k]? = some x) (hk : key x ≤ K) : doneS l K k = false := by
  unfold doneS
  rw [List.any_eq_false]
  intro y hy
  obtain ⟨j, hj⟩ := List.getElem?_of_mem hy
  rw [List.getElem?_take] at hj
  split at hj
  · have := h.lt' (by assumption) hj hx
    simp; omega
  · cases hj
theorem none_above {l : List Rw} {p q : Int} {k : Nat} (h : doneS l (8 * p + q) k = false) : (l.take k).filter (fun x => decide (8 * p + q < key x)) = [] := by
  rw [List.filter_eq_nil_iff]
  intro x hx
  have := List.any_eq_false.1 h x hx
  simp at this ⊢; omega
theorem out_lt {l : List Rw} (h : Good l) {p q n : Int} {k : Nat} {x : Rw} (hx : l[k]? = some x) (hk : key x < 8 * p + q) : doneS l (8 * p + q) (k + 1) = false ∧ outS l p q n (k + 1) = outS l p q n k ++ [x] := by
  have h1 := done_false h hx (Int.le_of_lt hk)
  have h2 : doneS l (8 * p + q) (k + 1) = false := by rw [done_succ hx, h1, decide_eq_false (by omega)]; rfl
  refine ⟨h2, ?_⟩
  unfold outS
  rw [h1, h2, none_above h1, none_above h2, take_snoc3 hx, List.filter_append, List.filter_cons_of_pos (by simpa using hk)]
  simp
theorem out_eq {l : List Rw} (h : Good l) {p q n : Int} {k : Nat} {x : Rw} (hx : l[k]? = some x) (hk : key x = 8 * p + q) : doneS l (8 * p + q) (k + 1) = true ∧ outS l p q n (k + 1) = outS l p q n k ++ [⟨p, q, n⟩] := by
  have h1 := done_false h hx (Int.le_of_eq hk)
  have h2 : doneS l (8 * p + q) (k + 1) = true := by rw [done_succ hx, h1, decide_eq_true (by omega)]; rfl
  refine ⟨h2, ?_⟩
  unfold outS
  rw [h1, h2, none_above h1, take_snoc3 hx, List.filter_append, List.filter_append, none_above h1, List.filter_cons_of_neg (by simp [hk]), List.filter_cons_of_neg (by simp [hk])]
  simp
theorem out_gt0 {l : List Rw} {p q n : Int} {k : Nat} {x : Rw} (hx : l[k]? = some x) (hk : 8 * p + q < key x) (h1 : doneS l (8 * p + q) k = false) : doneS l (8 * p + q) (k + 1) = true ∧ outS l p q n (k + 1) = outS l p q n k ++ [⟨p, q, n⟩] ++ [x] := by
  have h2 : doneS l (8 * p + q) (k + 1) = true := by rw [done_succ hx, h1, decide_eq_true (by omega)]; rfl
  refine ⟨h2, ?_⟩
  unfold outS
  rw [h1, h2, none_above h1, take_snoc3 hx, List.filter_append, List.filter_append, none_above h1, List.filter_cons_of_neg (by simp; omega), List.filter_cons_of_pos (by simpa using hk)]
  simp
theorem out_gt1 {l : List Rw} {p q n : Int} {k : Nat} {x : Rw} (hx : l[k]? = some x) (hk : 8 * p + q < key x) (h1 : doneS l (8 * p + q) k = true) : doneS l (8 * p + q) (k + 1) = true ∧ outS l p q n (k + 1) = outS l p q n k ++ [x] := by
  have h2 : doneS l (8 * p + q) (k + 1) = true := by rw [done_succ hx, h1]; rfl
  refine ⟨h2, ?_⟩
  unfold outS
  rw [h1, h2, take_snoc3 hx, List.filter_append, List.filter_append, List.filter_cons_of_neg (by simp; omega), List.filter_cons_of_pos (by simpa using hk)]
  simp
theorem out_end1 {l : List Rw} {p q n : Int} (h : doneS l (8 * p + q) l.length = true) : outS l p q n l.length = takeS l p q n := by
  unfold outS takeS
  rw [h, List.take_of_length_le (Nat.le_refl _)]
  rfl
theorem out_end0 {l : List Rw} {p q n : Int} (h : doneS l (8 * p + q) l.length = false) : outS l p q n l.length ++ [⟨p, q, n⟩] = takeS l p q n := by
  have h1 := none_above h
  unfold outS takeS
  rw [h]
  rw [List.take_of_length_le (Nat.le_refl _)] at h1 ⊢
  rw [h1]
  simp
theorem out_zero (l : List Rw) (p q n : Int) : outS l p q n 0 = [] := by simp [outS, doneS]
theorem filters_le (l : List Rw) (K : Int) : (l.filter (fun x => decide (key x < K))).length + (l.filter (fun x => decide (K < key x))).length ≤ l.length := by
  induction l with
  | nil => simp
  | cons x r ih =>
    rcases Int.lt_trichotomy (key x) K with h | h | h
    · rw [List.filter_cons_of_pos (by simpa using h), List.filter_cons_of_neg (by simp; omega), List.length_cons, List.length_cons]; omega
    · rw [List.filter_cons_of_neg (by simp [h]), List.filter_cons_of_neg (by simp [h]), List.length_cons]; omega
    · rw [List.filter_cons_of_neg (by simp; omega), List.filter_cons_of_pos (by simpa using h), List.length_cons, List.length_cons]; omega
theorem out_len (l : List Rw) (p q n : Int) (k : Nat) : (outS l p q n k).length ≤ k + (if doneS l (8 * p + q) k = true then 1 else 0) := by
  have h1 := filters_le (l.take k) (8 * p + q)
  have h2 : (l.take k).length ≤ k := by rw [List.length_take]; omega
  unfold outS
  simp only [List.length_append]
  split
  · simp only [List.length_singleton]; omega
  · simp only [List.length_nil]; omega

/-- What holds between the loop's rounds. -/
def MidT (w1 : World) (r : Nat) (l : List Rw) (p q n : Int) (k : Nat) (d : Bool) (v : Value) (W : World) : Prop :=
  d = doneS l (8 * p + q) k ∧ OwnW W (r + 1) v (outS l p q n k) ∧ Below (r + 1) w1 W
/-- One more row behind. -/
theorem append_row {W : World} {base : Nat} {v : Value} {o : List Rw} (h : OwnW W base v o) (hb : base ≤ W.heap.size) (x : Rw) (hl : (o.length + 1) * 24 ≤ 140737488355328) :
    ∃ v' W', (∀ ty, (Builtin.append_ #[22, 22] ty #[v, .slice (some ⟨W.heap.size, 0, none⟩) 1 1]).run Try.prog (W.alloc (.cells #[.int .i64 x.p, .int .i64 x.q, .int .i64 x.n] 42)) = .ok v' W') ∧ OwnW W' base v' (o ++ [x]) ∧ Below base W W' ∧ W.heap.size ≤ W'.heap.size := by
  obtain ⟨i0, hi0, hz0, hzs, hzb⟩ := info_parts info_row
  obtain ⟨v', W', hr, h2, h3, _⟩ := OwnThree.append (P := Try.prog) W 22 (f := pV) (g := qV) (h := nV) (fun _ => rfl) (fun _ => rfl) (fun _ => rfl) Try.underlying22 hi0 hz0 hzs hzb rfl h hb x (by simp only [maxLen]; omega) hl
  refine ⟨v', W', fun ty => ?_, h2, (Below.refl base W).grown h3 hb (fun k hk => (h.own hk).1), h3.size⟩
  exact hr

set_option maxRecDepth 1000000 in
set_option maxHeartbeats 8000000 in
theorem refTake_calls (l : List Rw) (hg : Good l) (p q seq : Int) (v : Value) (w : World) (hl : (l.length + 1) * 24 ≤ 140737488355328) (h : OldW w.heap.size w v l) (hr : -9223372036854775808 ≤ lastL l p q ∧ lastL l p q ≤ 9223372036854775807) (hs : -9223372036854775808 ≤ seq ∧ seq ≤ 9223372036854775807) :
    Calls Try.prog 15 #[v, .int .i64 p, .int .i64 q, .int .i64 seq] w (RetT w (takeL l p q seq)) := by
  have C2 := Lib.hid fun W => right_calls p q W
  have C3 := Lib.hid (refLook_calls l p q seq v w (by omega) h hr hs)
  have HG := Lib.hid hg
  obtain ⟨i0, hi0, hz0, hzs, hzb⟩ := info_parts info_row
  have HAP : Hid (∀ W, Below w.heap.size w W → ∃ v' W', (∀ ty, (Builtin.append_ #[22, 22] ty #[.slice none 0 0, v]).run Try.prog W = .ok v' W') ∧ OwnW W' w.heap.size v' l ∧ Below w.heap.size w W') := Lib.hid fun W hW => by
    obtain ⟨v', W', hrun, hO, hG, _⟩ := OwnThree.appendAt (P := Try.prog) 22 (fun _ => rfl) (fun _ => rfl) (fun _ => rfl) Try.underlying22 hi0 hz0 hzs hzb rfl (OwnThree.nil 42 W w.heap.size) hW.size (ThreeAt.low hW h) (by simp only [maxLen, List.length_nil]; omega) (by simp only [List.length_nil]; omega)
    exact ⟨v', W', fun ty => hrun, by simpa using hO, hW.grown hG hW.size (fun k hk => by cases hk)⟩
  obtain ⟨A, cap, rfl, _⟩ := h.form
  have HW := Lib.hid h
  have HBR := Lib.hid (Below.refl w.heap.size w)
  clear h hi0 hz0 hzs hzb hg
  by_cases hrt : rightN p q = true
  · rw [hrt] at C2
    by_cases hlk : lookL (lastL l p q) seq = 1
    · have HRES : Hid (takeL l p q seq = (takeS l p q seq, 1)) := Lib.hid (by unfold takeL; rw [if_pos hrt, if_pos hlk])
      rw [hlk] at C3
      have HRT := Lib.hid hrt
      obtain ⟨r1, r2, r3, r4⟩ := rightN_iff.1 hrt
      obtain ⟨K, hK⟩ : ∃ K, 8 * p + q = K := ⟨_, rfl⟩
      have HK := Lib.hid hK
      have m1 : IntKind.i64.wrap (8 * p) = 8 * p := by rw [IntKind.wrap_i64]; omega
      have m2 : IntKind.i64.wrap (8 * p + q) = K := by rw [IntKind.wrap_i64, ← hK]; omega
      have HWK : Hid (IntKind.i64.wrap (8 * p) = 8 * p ∧ IntKind.i64.wrap (8 * p + q) = K) := Lib.hid ⟨m1, m2⟩
      obtain ⟨n, hn⟩ : ∃ n, l.length = n := ⟨_, rfl⟩
      have HN := Lib.hid hn
      rw [hn] at HW C3 HAP hl ⊢
      clear hlk hrt hr r1 r2 r3 r4 hK hn m1 m2
      go_enter Try.func15, Try.ntmps15
      go_wp2_with fail
      refine (C2.out _).mono ?_
      rintro e W0 ⟨rfl, rfl⟩
      go_wp2_with fail
      refine C3.out.mono ?_
      rintro e W1 ⟨rfl, hB1⟩
      have HB1 := Lib.hid hB1
      obtain ⟨r, hrr⟩ : ∃ r, W1.heap.size = r := ⟨_, rfl⟩
      obtain ⟨W2, hW2⟩ : ∃ W2, W1.alloc (.cells #[.int .i64 p, .int .i64 q, .int .i64 seq] 42) = W2 := ⟨_, rfl⟩
      have HBX : Hid (W2.heap[r]? = some (rwObj ⟨p, q, seq⟩)) := Lib.hid (by rw [← hW2, ← hrr]; exact heap_alloc_new W1 _)
      have HS2 : Hid (W2.heap.size = r + 1) := Lib.hid (by rw [← hW2, ← hrr]; simp)
      have HB2 : Hid (Below w.heap.size w W2) := Lib.hid (hB1.trans (by rw [← hW2]; exact (alloc_low W1 _).mono hB1.size))
      have HR : Hid (w.heap.size ≤ r) := Lib.hid (by rw [← hrr]; exact hB1.size)
      have HWW := Lib.hid hW2
      clear hB1 hW2 C2 C3 HB1
      go_wp2_with fail
      rw [HWW.out]
      clear hrr HWW
      go_loopw [10, 13, 14] (fun o d i wr => ∃ (k : Nat) (b : Bool) (ov : Value), ov = o ∧ i = .int .i64 k ∧ d = .bool b ∧ k ≤ n ∧ Hid (MidT W2 r l p q seq k b ov wr)) (fun _ _ i _ => n - (intOf i).toNat)
      case atStart => exact ⟨0, false, _, rfl, rfl, rfl, Nat.zero_le _, Lib.hid ⟨by simp [doneS], by rw [out_zero]; exact OwnThree.nil _ _ _, Below.refl _ _⟩⟩
      case round =>
        obtain ⟨k, b, o, rfl, rfl, rfl, hk, HM⟩ := hrel
        obtain ⟨hb, hO, hB⟩ := HM.out
        have hsz : r + 1 ≤ wr.heap.size := by have := hB.size; have := HS2.out; omega
        have hBw : Below w.heap.size w wr := HB2.out.trans (hB.mono (by have := HR.out; omega))
        by_cases hlt : k < n
        · obtain ⟨x, hx⟩ : ∃ x, l[k]? = some x := ⟨_, List.getElem?_eq_getElem (by rw [HN.out]; exact hlt)⟩
          have HLE : Hid (k + 1 ≤ n) := Lib.hid hlt
          have hxr := (HG.out.right x (List.mem_of_getElem? hx)).1
          obtain ⟨t1, t2, t3, t4⟩ := rightN_iff.1 hxr
          have q1 : IntKind.i64.wrap (8 * x.p) = 8 * x.p := by rw [IntKind.wrap_i64]; omega
          have hkx : key x = 8 * x.p + x.q := rfl
          obtain ⟨Y, hY⟩ : ∃ Y, key x = Y := ⟨_, rfl⟩
          have q2 : IntKind.i64.wrap (8 * x.p + x.q) = Y := by rw [IntKind.wrap_i64, ← hY]; omega
          have hKK := HK.out
          have hol := out_len l p q seq k
          rw [← hb] at hol
          have HOL := Lib.hid hol
          have HBB := Lib.hid hb
          clear hol
          obtain ⟨bb, off, rfl, hbb, hc⟩ := (ThreeAt.low hBw HW.out).at (by omega)
          obtain ⟨c0, c1, c2⟩ := hc k x hx
          dsimp only [pV, qV, nV] at c0 c1 c2
          have hkk : (k : Int) < (n : Int) := by omega
          obtain ⟨y0, y1, y2⟩ := boxR ((hB.block r (by omega)).trans HBX.out)
          obtain ⟨m1, m2⟩ := HWK.out
          have HS := Lib.hid hsz
          have HO := Lib.hid hO
          have HB := Lib.hid hB
          have HBw := Lib.hid hBw
          clear hO hB hBw hsz hc hbb hb HM
          go_wp2_with fail
          go_quiet (fail)
          have hO3 : OwnW (wr.drewN nq) (r + 1) o (outS l p q seq k) := HO.out.keep fun _ _ => rfl
          have hB3 : Below (r + 1) W2 (wr.drewN nq) := HB.out.trans (((grown_low wr nq #[]) : Below wr.heap.size wr (wr.drewN nq)).mono HS.out)
          have hs3 : r + 1 ≤ (wr.drewN nq).heap.size := HS.out
          have g0 : (wr.drewN nq).cell? ⟨r, 0, none⟩ = some (.int .i64 p) := y0
          have g1 : (wr.drewN nq).cell? ⟨r, 1, none⟩ = some (.int .i64 q) := y1
          have g2 : (wr.drewN nq).cell? ⟨r, 2, none⟩ = some (.int .i64 seq) := y2
          have f0 : (wr.drewN nq).cell? ⟨bb, off + k * 3, none⟩ = some (.int .i64 x.p) := c0
          have f1 : (wr.drewN nq).cell? ⟨bb, off + k * 3 + 1, none⟩ = some (.int .i64 x.q) := c1
          have f2 : (wr.drewN nq).cell? ⟨bb, off + k * 3 + 2, none⟩ = some (.int .i64 x.n) := c2
          have HBw3 : Hid (Below w.heap.size w (wr.drewN nq)) := Lib.hid (HBw.out.trans (((grown_low wr nq #[]) : Below wr.heap.size wr (wr.drewN nq)).mono HBw.out.size))
          clear c0 c1 c2 y0 y1 y2 HO HB HS HBw
          generalize wr.drewN nq = w3 at *
          have HY := Lib.hid hY
          clear hY hkx
          by_cases hkl : Y < K
          · -- ahead
            have hbf : b = false := by rw [HBB.out]; exact done_false HG.out hx (by have := HY.out; have := HK.out; omega)
            subst hbf
            obtain ⟨v4, W4, hrun, hO4, hB4, hs4⟩ := append_row hO3 hs3 x (by have hol := HOL.out; simp only [Bool.false_eq_true, if_false] at hol; omega)
            obtain ⟨E1, E2⟩ := out_lt (p := p) (q := q) (n := seq) HG.out hx (by have := HY.out; have := HK.out; omega)
            have HF : Hid (MidT W2 r l p q seq (k + 1) false v4 W4) := Lib.hid ⟨E1.symm, by rw [E2]; exact hO4, hB3.trans hB4⟩
            have HRUN := Lib.hid hrun
            have d1 : decide (K ≤ Y) = false := decide_eq_false (by omega)
            have d2 : (Y != K) = true := by rw [bne_iff_ne]; omega
            have d3 : ¬ K ≤ Y := by omega
            clear hO3 hB3 hs3 hkl hrun hO4 hB4 hs4 E1 E2 hx hxr hKK t1 t2 t3 t4 g0 g1 g2
            go_wp2_with (at_builtin; refine wpList_append_ran rfl _ _ _ rfl rfl rfl (HRUN.out _) ?_)
            go_roundw
            case rel => exact ⟨k + 1, false, _, rfl, by go_num, rfl, HLE.out, HF⟩
            case measure => have h := HLE.out; simp [intOf]; omega
          · by_cases hke : Y = K
            · -- there
              have hbf : b = false := by rw [HBB.out]; exact done_false HG.out hx (by have := HY.out; have := HK.out; omega)
              subst hbf
              obtain ⟨v4, W4, hrun, hO4, hB4, hs4⟩ := append_row hO3 hs3 ⟨p, q, seq⟩ (by have hol := HOL.out; simp only [Bool.false_eq_true, if_false] at hol; omega)
              obtain ⟨E1, E2⟩ := out_eq (p := p) (q := q) (n := seq) HG.out hx (by have := HY.out; have := HK.out; omega)
              have HF : Hid (MidT W2 r l p q seq (k + 1) true v4 W4) := Lib.hid ⟨E1.symm, by rw [E2]; exact hO4, hB3.trans hB4⟩
              have HRUN := Lib.hid hrun
              have d1 : decide (K ≤ Y) = true := decide_eq_true (by omega)
              have d2 : (Y != K) = false := by rw [bne_eq_false_iff_eq]; omega
              have d3 : K ≤ Y := by omega
              clear hO3 hB3 hs3 hkl hke hrun hO4 hB4 hs4 E1 E2 hx hxr hKK t1 t2 t3 t4 f0 f1 f2
              go_wp2_with (at_builtin; refine wpList_append_ran rfl _ _ _ rfl rfl rfl (HRUN.out _) ?_)
              go_roundw
              case rel => exact ⟨k + 1, true, _, rfl, by go_num, rfl, HLE.out, HF⟩
              case measure => have h := HLE.out; simp [intOf]; omega
            · have hkg : 8 * p + q < key x := by have := HY.out; have := HK.out; omega
              have d1 : decide (K ≤ Y) = true := decide_eq_true (by omega)
              have d2 : (Y != K) = true := by rw [bne_iff_ne]; omega
              have d3 : K ≤ Y := by omega
              cases b with
              | true =>
                obtain ⟨v4, W4, hrun, hO4, hB4, hs4⟩ := append_row hO3 hs3 x (by have hol := HOL.out; simp only [if_true] at hol; omega)
                obtain ⟨E1, E2⟩ := out_gt1 (p := p) (q := q) (n := seq) hx hkg HBB.out.symm
                have HF : Hid (MidT W2 r l p q seq (k + 1) true v4 W4) := Lib.hid ⟨E1.symm, by rw [E2]; exact hO4, hB3.trans hB4⟩
                have HRUN := Lib.hid hrun
                clear hO3 hB3 hs3 hkl hke hkg hrun hO4 hB4 hs4 E1 E2 hx hxr hKK t1 t2 t3 t4 g0 g1 g2
                go_wp2_with (at_builtin; refine wpList_append_ran rfl _ _ _ rfl rfl rfl (HRUN.out _) ?_)
                go_roundw
                case rel => exact ⟨k + 1, true, _, rfl, by go_num, rfl, HLE.out, HF⟩
                case measure => have h := HLE.out; simp [intOf]; omega
              | false =>
                obtain ⟨v4, W4, hrun, hO4, hB4, hs4⟩ := append_row hO3 hs3 ⟨p, q, seq⟩ (by have hol := HOL.out; simp only [Bool.false_eq_true, if_false] at hol; omega)
                have hs4' : r + 1 ≤ W4.heap.size := Nat.le_trans hs3 hs4
                obtain ⟨v5, W5, hrun5, hO5, hB5, hs5⟩ := append_row hO4 hs4' x (by
                  have hol := HOL.out
                  simp only [Bool.false_eq_true, if_false, Nat.add_zero] at hol
                  rw [List.length_append, List.length_singleton]
                  exact Nat.le_trans (Nat.mul_le_mul_right 24 (Nat.succ_le_succ (Nat.succ_le_of_lt (Nat.lt_of_le_of_lt hol hlt)))) hl)
                obtain ⟨E1, E2⟩ := out_gt0 (p := p) (q := q) (n := seq) hx hkg HBB.out.symm
                have HF : Hid (MidT W2 r l p q seq (k + 1) true v5 W5) := Lib.hid ⟨E1.symm, by rw [E2]; exact hO5, (hB3.trans hB4).trans hB5⟩
                have hbb4 : Below w.heap.size w W4 := HBw3.out.trans (hB4.mono (by have := HR.out; omega))
                obtain ⟨bb3, off3, hA3, _, hc3⟩ := (ThreeAt.low hbb4 HW.out).at (by omega)
                simp only [Option.some.injEq, Addr.mk.injEq, and_true] at hA3
                obtain ⟨rfl, rfl⟩ := hA3
                obtain ⟨e0, e1, e2⟩ := hc3 k x hx
                dsimp only [pV, qV, nV] at e0 e1 e2
                have HRUN := Lib.hid hrun
                have HRUN5 := Lib.hid hrun5
                clear hO3 hB3 hs3 hkl hke hkg hrun hrun5 hO4 hB4 hs4 hs4' hO5 hB5 hs5 E1 E2 hx hxr hKK t1 t2 t3 t4 hbb4 hc3 f0 f1 f2
                go_upto_region 17 with (at_builtin; refine wpList_append_ran rfl _ _ _ rfl rfl rfl (HRUN.out _) ?_)
                go_wp2_with (at_builtin; refine wpList_append_ran rfl _ _ _ rfl rfl rfl (HRUN5.out _) ?_)
                go_roundw
                case rel => exact ⟨k + 1, true, _, rfl, by go_num, rfl, HLE.out, HF⟩
                case measure => have h := HLE.out; simp [intOf]; omega
        · obtain rfl : k = n := by omega
          have hend : doneS l (8 * p + q) k = doneS l (8 * p + q) l.length := by rw [HN.out]
          have hout : outS l p q seq k = outS l p q seq l.length := by rw [HN.out]
          cases b with
          | true =>
            have hE := out_end1 (n := seq) (hend.symm.trans hb.symm)
            have HF : Hid (RetT w (takeS l p q seq, 1) (.returned (.tuple #[o, .int .i64 1])) wr) := Lib.hid ⟨o, rfl, by
              rw [hout, hE] at hO
              exact hO.base (by have := HR.out; omega), hBw⟩
            clear hE hout hend hO hB hBw hb HM hsz
            go_wp2_with fail
            go_ret2
            rw [HRES.out]
            exact HF.out
          | false =>
            have hE := out_end0 (n := seq) (hend.symm.trans hb.symm)
            obtain ⟨y0, y1, y2⟩ := boxR ((hB.block r (by have := HS2.out; omega)).trans HBX.out)
            have hol := out_len l p q seq k
            rw [← hb] at hol
            obtain ⟨v4, W4, hrun, hO4, hB4, hs4⟩ := append_row hO hsz ⟨p, q, seq⟩ (by simp only [Bool.false_eq_true, if_false] at hol; omega)
            have HF : Hid (RetT w (takeS l p q seq, 1) (.returned (.tuple #[v4, .int .i64 1])) W4) := Lib.hid ⟨v4, rfl, by
              rw [hout, hE] at hO4
              exact hO4.base (by have := HR.out; omega), hBw.trans (hB4.mono (by have := HR.out; omega))⟩
            have HRUN := Lib.hid hrun
            clear hE hout hend hO hB hBw hb HM hsz hrun hO4 hB4 hs4 hol
            go_wp2_with (at_builtin; refine wpList_append_ran rfl _ _ _ rfl rfl rfl (HRUN.out _) ?_)
            go_ret2
            rw [HRES.out]
            exact HF.out
    · have HRES : Hid (takeL l p q seq = (l, lookL (lastL l p q) seq)) := Lib.hid (by unfold takeL; rw [if_pos hrt, if_neg hlk])
      generalize lookL (lastL l p q) seq = z at C3 hlk HRES
      have hz : (z != 1) = true := by rw [bne_iff_ne]; exact hlk
      clear hlk hr
      go_enter Try.func15, Try.ntmps15
      go_wp2_with fail
      refine (C2.out _).mono ?_
      rintro e W0 ⟨rfl, rfl⟩
      go_wp2_with fail
      refine C3.out.mono ?_
      rintro e W1 ⟨rfl, hB1⟩
      obtain ⟨v4, W4, hrun, hO4, hB4⟩ := HAP.out W1 hB1
      have HF : Hid (RetT w (l, z) (.returned (.tuple #[v4, .int .i64 z])) W4) := Lib.hid ⟨v4, rfl, hO4, hB4⟩
      have HRUN := Lib.hid hrun
      clear hrun hO4 hB4 hB1 HAP
      go_wp2_with (at_builtin; refine wpList_append_ran rfl _ _ _ rfl rfl rfl (HRUN.out _) ?_)
      go_ret2
      rw [HRES.out]
      exact HF.out
  · have hrf : rightN p q = false := by rw [Bool.eq_false_iff]; exact hrt
    rw [hrf] at C2
    have HRES : Hid (takeL l p q seq = (l, 0)) := Lib.hid (by unfold takeL; rw [if_neg hrt])
    obtain ⟨v4, W4, hrun, hO4, hB4⟩ := HAP.out w HBR.out
    have HF : Hid (RetT w (l, 0) (.returned (.tuple #[v4, .int .i64 0])) W4) := Lib.hid ⟨v4, rfl, hO4, hB4⟩
    have HRUN := Lib.hid hrun
    clear hrt hrf hr hrun hO4 hB4 HAP
    go_enter Try.func15, Try.ntmps15
    go_wp2_with fail
    refine (C2.out _).mono ?_
    rintro e W0 ⟨rfl, rfl⟩
    go_wp2_with (at_builtin; refine wpList_append_ran rfl _ _ _ rfl rfl rfl (HRUN.out _) ?_)
    go_ret2
    rw [HRES.out]
    exact HF.out

end Go.Proofs.Ytlcmnemneghohaa.Dedup
