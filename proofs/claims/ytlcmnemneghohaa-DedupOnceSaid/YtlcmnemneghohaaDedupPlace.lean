/-
  Contracts of place, Last and Look.
-/
import Derived.Test.YtlcmnemneghohaaDedupSearch
namespace Go.Proofs.Ytlcmnemneghohaa.Dedup
open Go Go.RowKit Go.Lib Go.Sort Go.Shelf Go.Proofs.Ytlcmnemneghohaa.Law

/-- What place answers. -/
def PlaceOf (l : List Rw) (p q : Int) (i : Nat) (f : Bool) : Prop :=
  (f = true ∧ ∃ x : Rw, l[i]? = some x ∧ isIt p q x = true ∧ ∀ j y, j < i → l[j]? = some y → isIt p q y = false) ∨
  (f = false ∧ i ≤ l.length ∧ (∀ x ∈ l, isIt p q x = false) ∧ (∀ x, i ≠ 0 → l[i - 1]? = some x → ¬ 0 < ordI x.p x.q p q) ∧ (∀ x, l[i]? = some x → 0 < ordI x.p x.q p q))
def RetPl (l : List Rw) (p q : Int) (w : World) (e : Ending) (W : World) : Prop := ∃ (i : Nat) (f : Bool), e = .returned (.tuple #[.int .i64 (i : Nat), .bool f]) ∧ PlaceOf l p q i f ∧ Below w.heap.size w W

set_option maxRecDepth 1000000 in
set_option maxHeartbeats 4000000 in
theorem place_calls (l : List Rw) (p q : Int) (v : Value) (w : World) (hm : l.length ≤ 281474976710656) (hl : OldW w.heap.size w v l) :
    Calls Try.prog 20 #[v, .int .i64 p, .int .i64 q] w (RetPl l p q w) := by
  obtain ⟨A, cap, rfl, _⟩ := hl.form
  obtain ⟨n, hN⟩ : ∃ n, l.length = n := ⟨_, rfl⟩
  rw [hN] at hl ⊢
  obtain ⟨m, hq⟩ : ∃ m, w.heap.size = m := ⟨_, rfl⟩
  obtain ⟨W1, hW1⟩ : ∃ W1, (w.alloc (.cells #[.slice A n cap] 22)).alloc (.cells #[.int .i64 p, .int .i64 q, .int .i64 0] 42) = W1 := ⟨_, rfl⟩
  have hB1 : Below w.heap.size w W1 := by rw [← hW1]; exact ((Below.refl _ _).alloc (Nat.le_refl _) _).alloc (by simp) _
  have hR : W1.cell? ⟨m, 0, none⟩ = some (.slice A n cap) := by
    have : W1.heap[m]? = some (.cells #[.slice A n cap] 22) := by rw [← hW1, ← hq]; exact (Below.heap_alloc _ _ _ (by simp)).trans (heap_alloc_new w _)
    simp [World.cell?, this]
  have hS : W1.heap[m + 1]? = some (rwObj ⟨p, q, 0⟩) := by
    rw [← hW1, ← hq]
    have := heap_alloc_new (w.alloc (.cells #[.slice A n cap] 22)) (rwObj ⟨p, q, 0⟩)
    rwa [World.size_alloc] at this
  have hl1 : OldW W1.heap.size W1 (.slice A n cap) l := ThreeAt.on hB1 hl
  have C1 := Lib.hid (index_calls (m + 1) l ⟨p, q, 0⟩ (.slice A n cap) W1 hm hS hl1)
  have eg : ∀ args w, (callFunc 28 args).run Try.prog w = .ok (.enter 28 args) w := enters_of Try.func28 (by kernel_rfl) rfl
  have C2 : Hid (∀ W, Below W1.heap.size W1 W → Calls Try.prog 27 #[.int .i64 (n : Nat), .func (.func 28) #[] #[.pointer (some ⟨m, 0, none⟩), .pointer (some ⟨m + 1, 0, none⟩)]] W
      fun e w' => ∃ j : Nat, e = .returned (.int .i64 (j : Nat)) ∧ (j ≤ n ∧ (j ≠ 0 → (match l[j - 1]? with | some x => decide (0 < ordI x.p x.q p q) | none => false) = false) ∧ (j < n → (match l[j]? with | some x => decide (0 < ordI x.p x.q p q) | none => false) = true)) ∧ ∃ q os, w' = grow (W.drewN q) os) := Lib.hid fun W hW => by
    refine search_calls _ _ n (fun i => match l[i]? with | some x => decide (0 < ordI x.p x.q p q) | none => false) W eg (by omega) (fun d os i hi => ?_)
    have hBW : Below W1.heap.size W1 (grow (W.drewN d) os) := hW.trans ((grown_low W d os).mono hW.size)
    have hx : l[i]? = some l[i] := List.getElem?_eq_getElem (by rw [hN]; exact hi)
    have := behind_calls (m + 1) m A n cap l ⟨p, q, 0⟩ i l[i] hx hN (by omega) (grow (W.drewN d) os) ((hBW.block _ (lt_of_some hS)).trans hS) (by
      have hmlt : m < W1.heap.size := by have := lt_of_some hS; omega
      simp only [World.cell?, hBW.block m hmlt]
      exact hR) (ThreeAt.on hBW hl1)
    simp only [hx]
    exact this
  have HB1 := Lib.hid hB1
  have HN := Lib.hid hN
  have HW := Lib.hid hW1
  have HQ := Lib.hid hq
  have HR := Lib.hid hR
  have HL1 := Lib.hid (show m < W1.heap.size by have := lt_of_some hS; omega)
  clear hl hl1 hB1 hS hR hN hW1 hm
  go_enter Try.func20, Try.ntmps20
  go_wp2_with fail
  rw [HW.out]
  refine C1.out.mono ?_
  rintro e W2 ⟨z, rfl, hz, hB2⟩
  have HB2 := Lib.hid hB2
  have HF : Hid (Below w.heap.size w W2) := Lib.hid (HB1.out.trans (hB2.mono HB1.out.size))
  rcases hz with ⟨i, x, rfl, hx, hi, hlow⟩ | ⟨rfl, hno⟩
  · have HX := Lib.hid hx
    have HI := Lib.hid hi
    have HLO := Lib.hid hlow
    clear hx hi hlow hB2
    go_wp2_with fail
    go_ret2
    exact ⟨i, true, rfl, .inl ⟨rfl, x, HX.out, HI.out, HLO.out⟩, HF.out⟩
  · have HNO := Lib.hid hno
    have hr2 : W2.cell? ⟨m, 0, none⟩ = some (.slice A n cap) := by
      simp only [World.cell?, hB2.block m HL1.out]
      exact HR.out
    clear hno hB2
    go_wp2_with fail
    refine (C2.out W2 HB2.out).mono ?_
    rintro e W3 ⟨j, rfl, ⟨hj, hj1, hj2⟩, q3, os3, rfl⟩
    have HF3 : Hid (Below w.heap.size w (grow (W2.drewN q3) os3)) := Lib.hid (HF.out.trans ((grown_low W2 q3 os3).mono HF.out.size))
    have HP : Hid (PlaceOf l p q j false) := Lib.hid (.inr ⟨rfl, by rw [HN.out]; exact hj, HNO.out, fun x h0 hx => by
        have := hj1 h0
        rw [hx] at this
        simpa using this, fun x hx => by
        have := hj2 (by rw [← HN.out]; exact (List.getElem?_eq_some_iff.1 hx).1)
        rw [hx] at this
        simpa using this⟩)
    clear hj hj1 hj2
    generalize grow (W2.drewN q3) os3 = w3 at HF3 ⊢
    go_wp2_with fail
    go_ret2
    exact ⟨j, false, rfl, HP.out, HF3.out⟩

set_option maxRecDepth 1000000 in
set_option maxHeartbeats 2000000 in
theorem last_calls (l : List Rw) (p q : Int) (v : Value) (w : World) (hm : l.length ≤ 281474976710656) (hl : OldW w.heap.size w v l) :
    Calls Try.prog 10 #[v, .int .i64 p, .int .i64 q] w (RetN w (lastL l p q)) := by
  have C := Lib.hid (place_calls l p q v w hm hl)
  obtain ⟨A, cap, rfl, _⟩ := hl.form
  have HL := Lib.hid hl
  clear hl
  go_enter Try.func10, Try.ntmps10
  go_wp2_with fail
  refine C.out.mono ?_
  rintro e W2 ⟨i, f, rfl, hP, hB⟩
  have HB := Lib.hid hB
  rcases hP with ⟨rfl, x, hx, hi, hlow⟩ | ⟨rfl, _, hno, _⟩
  · have HZ : Hid (lastL l p q = x.n) := Lib.hid (last_at hx hi hlow)
    have hlt := (List.getElem?_eq_some_iff.1 hx).1
    obtain ⟨b, off, rfl, hb, hc⟩ := (ThreeAt.low hB HL.out).at (by omega)
    obtain ⟨c0, c1, c2⟩ := hc i x hx
    have hltI : (i : Int) < (l.length : Int) := by omega
    generalize l.length = n at hltI ⊢
    clear hb hc hx hi hlow hB HL C
    go_wp2_with fail
    go_ret
    exact ⟨by rw [HZ.out]; rfl, HB.out⟩
  · have HZ : Hid (lastL l p q = -1) := Lib.hid (last_none hno)
    clear hno hB
    go_wp2_with fail
    go_ret
    exact ⟨by rw [HZ.out]; rfl, HB.out⟩

set_option maxRecDepth 1000000 in
set_option maxHeartbeats 2000000 in
theorem look_calls (l : List Rw) (p q seq : Int) (v : Value) (w : World) (hm : l.length ≤ 281474976710656) (hl : OldW w.heap.size w v l) (hr : -9223372036854775808 ≤ lastL l p q ∧ lastL l p q ≤ 9223372036854775807) (hs : -9223372036854775808 ≤ seq ∧ seq ≤ 9223372036854775807) :
    Calls Try.prog 12 #[v, .int .i64 p, .int .i64 q, .int .i64 seq] w (RetN w (lookL (lastL l p q) seq)) := by
  have C := Lib.hid (last_calls l p q v w hm hl)
  generalize lastL l p q = z at C hr ⊢
  obtain ⟨A, cap, rfl, _⟩ := hl.form
  obtain ⟨r, hz⟩ : ∃ r, lookL z seq = r := ⟨_, rfl⟩
  rw [hz]
  have HZ := Lib.hid hz
  clear hl hz
  go_enter Try.func12, Try.ntmps12
  go_wp2_with fail
  refine C.out.mono ?_
  rintro e W2 ⟨rfl, hB⟩
  have HB := Lib.hid hB
  clear hB C hm
  obtain ⟨h1, h2⟩ := hr
  obtain ⟨h3, h4⟩ := hs
  by_cases e1 : seq = z ∧ z = 9223372036854775807
  · obtain ⟨rfl, rfl⟩ := e1
    have hr : r = 4 := by rw [← HZ.out]; unfold lookL; rw [if_pos ⟨rfl, rfl⟩]
    subst hr
    go_wp2_with fail
    go_ret
    exact ⟨rfl, HB.out⟩
  · by_cases e2 : seq ≤ z
    · have hr : r = 2 := by rw [← HZ.out]; unfold lookL; rw [if_neg e1, if_pos e2]
      subst hr
      by_cases e3 : seq = z
      · subst e3
        have e4 : (seq == 9223372036854775807) = false := by rw [beq_eq_false_iff_ne]; exact fun h => e1 ⟨rfl, h⟩
        clear e1
        go_wp2_with fail
        go_ret
        exact ⟨rfl, HB.out⟩
      · have e4 : (seq == z) = false := beq_eq_false_iff_ne.2 e3
        clear e1 e3
        go_wp2_with fail
        go_ret
        exact ⟨rfl, HB.out⟩
    · have e4 : (seq == z) = false := beq_eq_false_iff_ne.2 (by omega)
      have e5 : IntKind.i64.wrap (z + 1) = z + 1 := by rw [IntKind.wrap_i64]; omega
      clear e1
      by_cases e6 : seq = z + 1
      · have hr : r = 1 := by rw [← HZ.out]; exact look_one.2 e6
        subst hr
        have e7 : (seq == z + 1) = true := by rw [beq_iff_eq]; exact e6
        clear e6
        have e8 : ¬ seq ≤ z := e2
        go_wp2_with fail
        go_ret
        exact ⟨rfl, HB.out⟩
      · have hr : r = 3 := by rw [← HZ.out]; unfold lookL; rw [if_neg (by omega), if_neg e2, if_neg e6]
        subst hr
        have e7 : (seq == z + 1) = false := beq_eq_false_iff_ne.2 e6
        clear e6
        go_wp2_with fail
        go_ret
        exact ⟨rfl, HB.out⟩

end Go.Proofs.Ytlcmnemneghohaa.Dedup
