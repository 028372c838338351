/-
  Contracts of layer 13's small functions: cmp.Compare, cmp.Or, order, isOwner, and the document's Right.
-/
import Derived.Test.YtlcmnemneghohaaDedupMath
import Derived.Test.YtlcmnemneghohaaRowThree
import Derived.Test.YtlcmnemneghohaaHeldTail
import Derived.Test.YtlcmnemneghohaaHeldFloat
import Derived.Test.YtlcmnemneghohaaChecked
import Derived.Test.YtlcmnemneghohaaRows
import Derived.OwnWalk
import Derived.Deep.Slices
import Derived.ChangeSame
import Derived.Laws.Rows
import Derived.LoopTactic
import Derived.Sort.Grow
import Derived.Deep.Cut
import Derived.Deep.RegionHeld3
import Derived.BigQuiet
import Derived.WalkSmall
import Derived.Lib.QuietBelow
import Derived.Lib.Hide
import Derived.Deep.LoopGhost
import Derived.Shelf.RegionOpen
namespace Go.Proofs.Ytlcmnemneghohaa.Dedup
open Go Go.RowKit Go.Lib Go.Sort Go.Shelf Go.Proofs.Ytlcmnemneghohaa.Law

/-- An int, in the same world. -/
abbrev RetI (z : Int) (w : World) (e : Ending) (w' : World) : Prop := e = .returned (.int .i64 z) ∧ w = w'
/-- A bool, in the same world. -/
abbrev RetBo (b : Bool) (w : World) (e : Ending) (w' : World) : Prop := e = .returned (.bool b) ∧ w = w'
/-- A bool; what lay there lies. -/
def RetB (w : World) (g : Bool) (e : Ending) (W : World) : Prop := e = .returned (.bool g) ∧ Below w.heap.size w W
/-- An int; what lay there lies. -/
def RetN (w : World) (z : Int) (e : Ending) (W : World) : Prop := e = .returned (.int .i64 z) ∧ Below w.heap.size w W
theorem alloc_low (w : World) (o : Obj) : Below w.heap.size w (w.alloc o) := (Below.refl _ _).alloc (Nat.le_refl _) o

abbrev pV : Rw → Value := fun x => .int .i64 x.p
abbrev qV : Rw → Value := fun x => .int .i64 x.q
abbrev nV : Rw → Value := fun x => .int .i64 x.n
/-- A row's box. -/
abbrev rwObj (x : Rw) : Obj := .cells #[.int .i64 x.p, .int .i64 x.q, .int .i64 x.n] 42
abbrev rwV (x : Rw) : Value := .agg #[.int .i64 x.p, .int .i64 x.q, .int .i64 x.n]
theorem boxR {W : World} {b : Nat} {x : Rw} (h : W.heap[b]? = some (rwObj x)) : W.cell? ⟨b, 0, none⟩ = some (.int .i64 x.p) ∧ W.cell? ⟨b, 1, none⟩ = some (.int .i64 x.q) ∧ W.cell? ⟨b, 2, none⟩ = some (.int .i64 x.n) := by
  refine ⟨?_, ?_, ?_⟩ <;> simp [World.cell?, h]
theorem lt_of_some {W : World} {b : Nat} {o : Obj} (h : W.heap[b]? = some o) : b < W.heap.size := by
  rcases Nat.lt_or_ge b W.heap.size with h1 | h1
  · exact h1
  · rw [Array.getElem?_eq_none h1] at h; cases h
/-- A slice of rows, in old blocks. -/
abbrev OldW (n : Nat) (W : World) (v : Value) (l : List Rw) : Prop := Old3 pV qV nV n W v l
abbrev OwnW (W : World) (base : Nat) (v : Value) (l : List Rw) : Prop := OwnThree pV qV nV 42 W base v l

set_option maxHeartbeats 400000 in
theorem nan_calls (a : Int) (w : World) : Calls Try.prog 31 #[.int .i64 a] w (RetBo false w) := by
  have h2 : (a != a) = false := by simp [bne]
  go_enter Try.func31, Try.ntmps31
  go_wp2_with fail
  go_ret
  exact ⟨rfl, rfl⟩

set_option maxRecDepth 100000 in
set_option maxHeartbeats 1000000 in
theorem cmp_calls (a b : Int) (w : World) : Calls Try.prog 24 #[.int .i64 a, .int .i64 b] w (RetI (cmpI a b) w) := by
  have C1 := Lib.hid (nan_calls a w)
  have C2 := Lib.hid (nan_calls b w)
  unfold cmpI
  rcases (show a < b ∨ b < a ∨ a = b by omega) with h | h | h
  · rw [if_pos h]
    go_enter Try.func24, Try.ntmps24
    go_wp2_with fail
    refine C1.out.mono ?_
    rintro e w2 ⟨rfl, rfl⟩
    go_wp2_with fail
    refine C2.out.mono ?_
    rintro e w2 ⟨rfl, rfl⟩
    go_wp2_with fail
    go_ret
    exact ⟨rfl, rfl⟩
  · have h1 : ¬ a < b := by omega
    rw [if_neg h1, if_pos h]
    go_enter Try.func24, Try.ntmps24
    go_wp2_with fail
    refine C1.out.mono ?_
    rintro e w2 ⟨rfl, rfl⟩
    go_wp2_with fail
    refine C2.out.mono ?_
    rintro e w2 ⟨rfl, rfl⟩
    go_wp2_with fail
    go_ret
    exact ⟨rfl, rfl⟩
  · subst h
    have h1 : ¬ a < a := by omega
    rw [if_neg h1, if_neg h1]
    go_enter Try.func24, Try.ntmps24
    go_wp2_with fail
    refine C1.out.mono ?_
    rintro e w2 ⟨rfl, rfl⟩
    go_wp2_with fail
    refine C2.out.mono ?_
    rintro e w2 ⟨rfl, rfl⟩
    go_wp2_with fail
    go_ret
    exact ⟨rfl, rfl⟩

/-- The first that isn't 0. -/
theorem or_calls (x y : Int) (b : Nat) (T : TypeId) (fr : Nat × Nat) (w : World) (h : w.heap[b]? = some (.cells #[.int .i64 x, .int .i64 y] T fr)) :
    Calls Try.prog 23 #[.slice (some ⟨b, 0, none⟩) 2 2] w (RetI (if x = 0 then y else x) w) := by
  have c0 : w.cell? ⟨b, 0, none⟩ = some (.int .i64 x) := by simp [World.cell?, h]
  have c1 : w.cell? ⟨b, 1, none⟩ = some (.int .i64 y) := by simp [World.cell?, h]
  clear h
  go_enter Try.func23, Try.ntmps23
  by_cases hx : x = 0
  · subst hx
    rw [if_pos rfl]
    by_cases hy : y = 0
    · subst hy
      go_wp2_with fail
      refine wp_loop_rounds 3 ?_
      rw [rounds_succ]
      go_wp2_with fail
      rw [rounds_succ]
      go_wp2_with fail
      rw [rounds_succ]
      go_wp2_with fail
      go_ret
      exact ⟨rfl, rfl⟩
    · have g : (y != 0) = true := by rw [bne_iff_ne]; exact hy
      go_wp2_with fail
      refine wp_loop_rounds 3 ?_
      rw [rounds_succ]
      go_wp2_with fail
      rw [rounds_succ]
      go_wp2_with fail
      go_ret
      exact ⟨rfl, rfl⟩
  · rw [if_neg hx]
    have g : (x != 0) = true := by rw [bne_iff_ne]; exact hx
    go_wp2_with fail
    refine wp_loop_rounds 3 ?_
    rw [rounds_succ]
    go_wp2_with fail
    go_ret
    exact ⟨rfl, rfl⟩

/-- An int; the world is the same but for draws and new blocks. -/
def RetG (w : World) (z : Int) (e : Ending) (W : World) : Prop := e = .returned (.int .i64 z) ∧ ∃ q os, W = grow (w.drewN q) os
set_option maxRecDepth 100000 in
set_option maxHeartbeats 2000000 in
theorem order_calls (x y : Rw) (W : World) : Calls Try.prog 17 #[rwV x, rwV y] W (RetG W (ordI x.p x.q y.p y.q)) := by
  have C1 := Lib.hid fun w => cmp_calls x.p y.p w
  have C2 := Lib.hid fun w => cmp_calls x.q y.q w
  obtain ⟨a, ha⟩ : ∃ a, cmpI x.p y.p = a := ⟨_, rfl⟩
  obtain ⟨b, hb⟩ : ∃ b, cmpI x.q y.q = b := ⟨_, rfl⟩
  unfold ordI
  rw [ha] at C1 ⊢
  rw [hb] at C2 ⊢
  clear ha hb
  obtain ⟨r, hr⟩ : ∃ r, (if a = 0 then b else a) = r := ⟨_, rfl⟩
  rw [hr]
  have HR := Lib.hid hr
  clear hr
  obtain ⟨W1, hW1⟩ : ∃ W1, (W.alloc (rwObj x)).alloc (rwObj y) = W1 := ⟨_, rfl⟩
  obtain ⟨q, hq⟩ : ∃ q, W.heap.size = q := ⟨_, rfl⟩
  have hx : W1.heap[q]? = some (rwObj x) := by rw [← hW1, ← hq]; exact (Below.heap_alloc _ _ _ (by simp)).trans (heap_alloc_new W _)
  have hy : W1.heap[q + 1]? = some (rwObj y) := by
    rw [← hW1, ← hq]
    have := heap_alloc_new (W.alloc (rwObj x)) (rwObj y)
    rwa [World.size_alloc] at this
  have hG : ∃ os', W1 = grow W os' := ⟨_, by rw [← hW1, alloc_eq_grow, alloc_eq_grow, grow_grow]⟩
  have hs1 : W1.heap.size = q + 1 + 1 := by rw [← hW1, ← hq]; simp
  have HX := Lib.hid hx
  have HY := Lib.hid hy
  have HG := Lib.hid hG
  have HS := Lib.hid hs1
  have HW := Lib.hid hW1
  have HQ := Lib.hid hq
  clear hx hy hG hs1 hW1 hq
  go_enter Try.func17, Try.ntmps17
  go_wp2_with fail
  rw [HW.out, HQ.out]
  refine wp_region_noPanic ?_
  refine wp_region_held_tail (C := fun w' => w'.heap[q]? = some (rwObj x) ∧ w'.heap[q + 1]? = some (rwObj y)) [0, 1, 2, 3, 5, 6, 7, 8] [4, 9, 10, 11, 12] 12 (by kernel_rfl) (by kernel_rfl) (fun _ _ _ _ _ h => h) ?_ ?_
  · exact ⟨HX.out, HY.out⟩
  iterate 8
    refine heldI_step (v := ?_) rfl (by rfl) (fun w' hw' => ?_) ?_
    rotate_left
    · obtain ⟨k0, k1, k2⟩ := boxR hw'.1
      obtain ⟨k3, k4, k5⟩ := boxR hw'.2
      go_simp
      all_goals with_reducible rfl
    simp only [Act.put, List.getElem_toArray, List.getElem_cons_succ, List.getElem_cons_zero, List.setIfInBounds_toArray, List.set_cons_succ, List.set_cons_zero]
  refine heldI_nil ?_
  have HC0 : Hid (W1.drew.heap[q]? = some (rwObj x) ∧ W1.drew.heap[q + 1]? = some (rwObj y)) := Lib.hid ⟨HX.out, HY.out⟩
  refine seqI_step rfl ?_
  simp only [List.getElem_toArray, List.getElem_cons_succ, List.getElem_cons_zero]
  go_wp2_with (go_at_call 24; ((with_reducible refine (C1.out _).mono ?_); rintro e W3 ⟨rfl, rfl⟩))
  refine ⟨HC0.out, ?_⟩
  refine seqI_step rfl ?_
  simp only [List.getElem_toArray, List.getElem_cons_succ, List.getElem_cons_zero]
  go_wp2_with (go_at_call 24; ((with_reducible refine (C2.out _).mono ?_); rintro e W3 ⟨rfl, rfl⟩))
  refine ⟨HC0.out, ?_⟩
  refine seqI_step rfl ?_
  simp only [List.getElem_toArray, List.getElem_cons_succ, List.getElem_cons_zero]
  go_wp2_with fail
  obtain ⟨W4, hW4⟩ : ∃ W4, (W1.alloc (.cells #[.int .i64 a, .int .i64 b] 3)).drew = W4 := ⟨_, rfl⟩
  have h4 : W4.heap[q + 1 + 1]? = some (.cells #[.int .i64 a, .int .i64 b] 3) := by
    rw [← hW4]
    have := heap_alloc_new W1 (.cells #[.int .i64 a, .int .i64 b] 3)
    rw [HS.out] at this
    exact this
  have HC4 : Hid (W4.heap[q]? = some (rwObj x) ∧ W4.heap[q + 1]? = some (rwObj y)) := Lib.hid (by
    rw [← hW4]
    exact ⟨(Below.heap_alloc _ _ _ (lt_of_some HC0.out.1)).trans HC0.out.1, (Below.heap_alloc _ _ _ (lt_of_some HC0.out.2)).trans HC0.out.2⟩)
  have c3 := or_calls a b _ _ _ _ h4
  rw [HR.out] at c3
  have C3 := Lib.hid c3
  have HF : Hid (∃ p os', W4 = grow (W.drewN p) os') := Lib.hid (by
    obtain ⟨os, hos⟩ := HG.out
    refine ⟨1, os ++ #[.cells #[.int .i64 a, .int .i64 b] 3], ?_⟩
    rw [← hW4, hos, alloc_eq_grow, grow_grow]
    rfl)
  rw [HS.out, hW4]
  clear hW4 h4 c3
  refine ⟨HC4.out, ?_⟩
  refine seqI_step rfl ?_
  simp only [List.getElem_toArray, List.getElem_cons_succ, List.getElem_cons_zero]
  go_wp2_with (go_at_call 23; ((with_reducible refine C3.out.mono ?_); rintro e W5 ⟨rfl, rfl⟩))
  refine ⟨HC4.out, ?_⟩
  refine seqI_last rfl ?_
  simp only [List.getElem_toArray, List.getElem_cons_succ, List.getElem_cons_zero]
  go_wp2_with fail
  refine NoPanic.normal ?_
  go_wp2_with fail
  go_ret
  exact ⟨rfl, HF.out⟩

theorem grown_low (w : World) (q : Nat) (os : Array Obj) : Below w.heap.size w (grow (w.drewN q) os) :=
  ⟨rfl, rfl, rfl, by first | (simp [grow]; done) | (simp [grow]; omega), fun i hi => by
    show ((w.drewN q).heap ++ os)[i]? = _
    rw [Array.getElem?_append_left (by show i < w.heap.size; omega)]
    rfl⟩
theorem RetG.low {w : World} {z : Int} {e : Ending} {W : World} (h : RetG w z e W) : RetN w z e W := by
  obtain ⟨he, q, os, rfl⟩ := h
  exact ⟨he, grown_low w q os⟩

theorem right_false {p q : Int} (h : ¬ (0 ≤ p ∧ p ≤ 63 ∧ 0 ≤ q ∧ q ≤ 7)) : rightN p q = false := by
  rw [Bool.eq_false_iff]; exact fun hc => h (rightN_iff.1 hc)

set_option maxHeartbeats 400000 in
theorem isOwner_calls (p q : Int) (w : World) : Calls Try.prog 18 #[.int .i64 p, .int .i64 q] w (RetBo (rightN p q) w) := by
  by_cases h1 : 0 ≤ p
  · by_cases h2 : p ≤ 63
    · by_cases h3 : 0 ≤ q
      · by_cases h4 : q < 8
        · rw [show rightN p q = true from rightN_iff.2 ⟨h1, h2, h3, by omega⟩]
          go_enter Try.func18, Try.ntmps18
          go_wp2_with fail
          go_ret
          exact ⟨rfl, rfl⟩
        · rw [right_false (fun h => h4 (by omega))]
          have hd : decide (q < 8) = false := decide_eq_false h4
          go_enter Try.func18, Try.ntmps18
          go_wp2_with fail
          go_ret
          exact ⟨rfl, rfl⟩
      · rw [right_false (fun h => h3 h.2.2.1)]
        have hd : decide (0 ≤ q) = false := decide_eq_false h3
        go_enter Try.func18, Try.ntmps18
        go_wp2_with fail
        go_ret
        exact ⟨rfl, rfl⟩
    · rw [right_false (fun h => h2 h.2.1)]
      have hd : decide (p ≤ 63) = false := decide_eq_false h2
      go_enter Try.func18, Try.ntmps18
      go_wp2_with fail
      go_ret
      exact ⟨rfl, rfl⟩
  · rw [right_false (fun h => h1 h.1)]
    have hd : decide (0 ≤ p) = false := decide_eq_false h1
    go_enter Try.func18, Try.ntmps18
    go_wp2_with fail
    go_ret
    exact ⟨rfl, rfl⟩

set_option maxHeartbeats 400000 in
theorem right_calls (p q : Int) (w : World) : Calls Try.prog 19 #[.int .i64 p, .int .i64 q] w (RetBo (rightN p q) w) := by
  by_cases h1 : 0 ≤ p
  · by_cases h2 : p ≤ 63
    · by_cases h3 : 0 ≤ q
      · by_cases h4 : q ≤ 7
        · rw [show rightN p q = true from rightN_iff.2 ⟨h1, h2, h3, h4⟩]
          go_enter Try.func19, Try.ntmps19
          go_wp2_with fail
          go_ret
          exact ⟨rfl, rfl⟩
        · rw [right_false (fun h => h4 (by omega))]
          have hd : decide (q ≤ 7) = false := decide_eq_false h4
          go_enter Try.func19, Try.ntmps19
          go_wp2_with fail
          go_ret
          exact ⟨rfl, rfl⟩
      · rw [right_false (fun h => h3 h.2.2.1)]
        have hd : decide (0 ≤ q) = false := decide_eq_false h3
        go_enter Try.func19, Try.ntmps19
        go_wp2_with fail
        go_ret
        exact ⟨rfl, rfl⟩
    · rw [right_false (fun h => h2 h.2.1)]
      have hd : decide (p ≤ 63) = false := decide_eq_false h2
      go_enter Try.func19, Try.ntmps19
      go_wp2_with fail
      go_ret
      exact ⟨rfl, rfl⟩
  · rw [right_false (fun h => h1 h.1)]
    have hd : decide (0 ≤ p) = false := decide_eq_false h1
    go_enter Try.func19, Try.ntmps19
    go_wp2_with fail
    go_ret
    exact ⟨rfl, rfl⟩

end Go.Proofs.Ytlcmnemneghohaa.Dedup
