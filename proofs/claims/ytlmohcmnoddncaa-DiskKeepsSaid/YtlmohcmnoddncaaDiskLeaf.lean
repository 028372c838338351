/-
  Contracts of disk's small functions: right rooms and names, copies of bytes.
-/
import Derived.Test.YtlmohcmnoddncaaBuf
import Derived.Test.YtlmohcmnoddncaaCells
import Derived.Test.YtlmohcmnoddncaaMapP
import Derived.Deep.RegionWith
import Derived.IntWalk
import Derived.Lib.SliceRun
namespace Go.Proofs.Ytlmohcmnoddncaa.Disk
open Go Go.RowKit Go.Proofs.Ytlmohcmnoddncaa.Law

theorem info_u8d : (Try.prog.info? 5).map (fun i => (i.zero, i.size, i.bytes)) = some (some (.int .u8 0), 1, 1) := by kernel_rfl

set_option maxRecDepth 100000 in
theorem rightRoom_calls (n : Int) (w : World) : Calls Try.prog 29 #[.int .i64 n] w fun e W => e = .returned (.bool (decide (0 ≤ n ∧ n ≤ 1073741824))) ∧ w = W := by
  by_cases h0 : 0 ≤ n
  · by_cases h1 : n ≤ 1073741824
    · have hr : decide (0 ≤ n ∧ n ≤ 1073741824) = true := by simp [h0, h1]
      rw [hr]
      clear hr
      go_enter Try.func29, Try.ntmps29
      go_wp2
      go_ret
      exact ⟨rfl, rfl⟩
    · have hr : decide (0 ≤ n ∧ n ≤ 1073741824) = false := by simp [h1]
      rw [hr]
      clear hr
      go_enter Try.func29, Try.ntmps29
      go_wp2
      go_ret
      exact ⟨rfl, rfl⟩
  · have hr : decide (0 ≤ n ∧ n ≤ 1073741824) = false := by simp [h0]
    rw [hr]
    clear hr
    go_enter Try.func29, Try.ntmps29
    go_wp2
    go_ret
    exact ⟨rfl, rfl⟩

/-- New bytes of the call's own. -/
def Cloned (w : World) (bs : List Nat) (e : Ending) (W : World) : Prop := ∃ v, e = .returned v ∧ OwnB W w.heap.size 5 v bs ∧ Below w.heap.size w W

set_option maxRecDepth 100000 in
set_option maxHeartbeats 1000000 in
theorem clone_calls (v : Value) (bs : List Nat) (hlen : bs.length ≤ 140737488351232) (w : World) (hI : Bytes w.heap.size w v bs) :
    Calls Try.prog 57 #[v] w (Cloned w bs) := by
  obtain ⟨i0, hi, hz0, hz1, hz2⟩ := info_parts info_u8d
  obtain ⟨A, cap, rfl⟩ := hI.form
  cases A with
  | none =>
    have h0 : bs = [] := by
      obtain ⟨A', cap', e, _, hA, _, hc⟩ := hI
      simp only [Value.slice.injEq] at e
      obtain ⟨rfl, _, rfl⟩ := e
      rcases Nat.eq_zero_or_pos bs.length with h | h
      · exact List.eq_nil_of_length_eq_zero h
      · obtain ⟨b, off, h, _⟩ := hc h; cases h
    have hcap : cap = 0 := by
      obtain ⟨A', cap', e, _, hA, _, hc⟩ := hI
      simp only [Value.slice.injEq] at e
      obtain ⟨rfl, _, rfl⟩ := e
      exact hA rfl
    subst h0 hcap
    clear hI
    have q22 : ∀ (w : World) (a : Option Addr) (n c n' c' : Nat), (binOp .eql 34 (.slice a n c) (.slice none n' c')).run Try.prog w = .ok (.bool a.isNone) w := fun w a n c n' c' => Lib.run_eql_slice_nil w _ _ a n c n' c' Try.underlying34
    go_enter Try.func57, Try.ntmps57
    go_wp2
    go_ret
    exact ⟨_, rfl, ⟨World.ownsRow_nil w _ _ 1, by simp⟩, Below.refl _ _⟩
  | some a =>
    have hB0 : Below w.heap.size w (w.alloc (.cells #[] 5)) := (Below.refl _ _).alloc (Nat.le_refl _) _
    have hO0 : OwnB (w.alloc (.cells #[] 5)) w.heap.size 5 (.slice (some ⟨w.heap.size, 0, none⟩) 0 0) [] :=
      ⟨⟨rfl, .inr ⟨w.heap.size, 0, #[], rfl, Nat.le_refl _, heap_alloc_new w _, Nat.le_refl _, by simp [maxLen], rfl, rfl⟩⟩, by simp⟩
    obtain ⟨v', w', R, O, G, _⟩ := run_append_bytes (P := Try.prog) (w.alloc (.cells #[] 5)) 34 Try.underlying34 hi hz0 hz1 hz2 rfl hO0 (hI.on hB0) (by simp; omega) (by simp)
    rw [List.nil_append] at O
    have hB1 : Below w.heap.size w w' := below_append hB0 G hO0 (Nat.le_refl _) (by simp)
    have HR := Lib.hid R
    have HO := Lib.hid O
    obtain ⟨A', c', rfl⟩ := O.bytes.form
    clear hI R O G hO0 hB0
    have q22 : ∀ (w : World) (a : Option Addr) (n c n' c' : Nat), (binOp .eql 34 (.slice a n c) (.slice none n' c')).run Try.prog w = .ok (.bool a.isNone) w := fun w a n c n' c' => Lib.run_eql_slice_nil w _ _ a n c n' c' Try.underlying34
    go_enter Try.func57, Try.ntmps57
    go_wp2_with (at_builtin; refine wpList_append_ran rfl _ _ _ rfl rfl rfl HR.out ?_)
    go_ret
    exact ⟨_, rfl, HO.out, hB1⟩

/-- A file's content as a value. -/
abbrev contentV (there : Bool) (v : Value) : Value := .agg #[.bool there, v]

/-- The cells of a block of two. -/
def Two2 (W : World) (b : Nat) (x0 x1 : Value) : Prop := W.cell? ⟨b, 0, none⟩ = some x0 ∧ W.cell? ⟨b, 1, none⟩ = some x1 ∧ W.frozen? ⟨b, 0, none⟩ = false ∧ W.frozen? ⟨b, 1, none⟩ = false
theorem two2 {W : World} {b : Nat} {x0 x1 : Value} {t : TypeId} (h : W.heap[b]? = some (Obj.cells #[x0, x1] t)) : Two2 W b x0 x1 := by
  refine ⟨?_, ?_, ?_, ?_⟩ <;> simp [World.cell?, World.frozen?, h]

/-- What Clone leaves, two new blocks ahead of it. -/
def Cloned2 (w : World) (bs : List Nat) (len : Nat) (x0 x1 y0 y1 : Value) (e : Ending) (W : World) : Prop :=
  ∃ A c, e = .returned (.slice A len c) ∧ OwnB W (w.heap.size + 2) 5 (.slice A len c) bs ∧ Below w.heap.size w W ∧ w.heap.size + 2 ≤ W.heap.size ∧ Two2 W w.heap.size x0 x1 ∧ Two2 W (w.heap.size + 1) y0 y1
theorem cloned2 (v : Value) (bs : List Nat) (hlen : bs.length ≤ 140737488351232) (w : World) (hI : Bytes w.heap.size w v bs) (x0 x1 y0 y1 : Value) (t u : TypeId) :
    Calls Try.prog 57 #[v] (((w.alloc (.cells #[x0, x1] t)).alloc (.cells #[y0, y1] u)).drew) (Cloned2 w bs bs.length x0 x1 y0 y1) := by
  have hB := (((Below.refl w.heap.size w).alloc (Nat.le_refl _) (.cells #[x0, x1] t)).alloc (by simp) (.cells #[y0, y1] u)).drew
  refine (clone_calls v bs hlen _ (hI.on hB)).mono ?_
  rintro e W ⟨v', rfl, hO, hB2⟩
  obtain ⟨A, c, rfl⟩ := hO.bytes.form
  have hsz : (((w.alloc (.cells #[x0, x1] t)).alloc (.cells #[y0, y1] u)).drew).heap.size = w.heap.size + 2 := by simp
  rw [hsz] at hO hB2
  refine ⟨A, c, rfl, hO, hB.trans (hB2.mono (by omega)), by have := hB2.size; rw [hsz] at this; exact this, two2 ((hB2.block _ (by omega)).trans ((Below.heap_alloc _ _ _ (by simp)).trans (heap_alloc_new w _))), ?_⟩
  have h1 := heap_alloc_new (w.alloc (.cells #[x0, x1] t)) (.cells #[y0, y1] u)
  rw [World.size_alloc] at h1
  exact two2 ((hB2.block (w.heap.size + 1) (by omega)).trans h1)

theorem ownB_put {W : World} {base b i : Nat} {e : TypeId} {v : Value} {bs : List Nat} (h : OwnB W (base + 2) e v bs) (hb : b < base + 2) (u : Value) : OwnB (W.setCell ⟨b, i, none⟩ u) (base + 2) e v bs := by
  have hlt := h.1.lt
  refine ⟨⟨h.1.1, ?_⟩, h.2⟩
  rcases h.1.2 with h0 | ⟨g, cap, cur, rfl, h1, h2, h3⟩
  · exact .inl h0
  · exact .inr ⟨g, cap, cur, rfl, h1, (Below.heap_setCell _ _ _ _ (by show g ≠ b; omega)).trans h2, h3⟩
theorem ownB_low {W : World} {base b' : Nat} {e : TypeId} {v : Value} {bs : List Nat} (h : OwnB W base e v bs) (hb : b' ≤ base) : OwnB W b' e v bs := by
  refine ⟨⟨h.1.1, ?_⟩, h.2⟩
  rcases h.1.2 with h0 | ⟨g, cap, cur, rfl, h1, h2⟩
  · exact .inl h0
  · exact .inr ⟨g, cap, cur, rfl, by omega, h2⟩

/-- What copied leaves. -/
def Copied (w : World) (there : Bool) (bs : List Nat) (e : Ending) (W : World) : Prop := ∃ v', e = .returned (contentV there v') ∧ OwnB W w.heap.size 5 v' bs ∧ Below w.heap.size w W

set_option maxRecDepth 100000 in
set_option maxHeartbeats 2000000 in
theorem copied_calls (there : Bool) (v : Value) (bs : List Nat) (hlen : bs.length ≤ 140737488351232) (w : World) (hI : Bytes w.heap.size w v bs) :
    Calls Try.prog 44 #[contentV there v] w (Copied w there bs) := by
  obtain ⟨A, cap, rfl⟩ := hI.form
  obtain ⟨len, hl⟩ : ∃ len, bs.length = len := ⟨_, rfl⟩
  have cC := cloned2 (.slice A bs.length cap) bs hlen w hI (.bool there) (.slice A len cap) (.bool false) (.slice none 0 0) 75 75
  rw [hl] at cC ⊢
  have CC := Lib.hid cC
  clear hI cC hl
  go_enter Try.func44, Try.ntmps44
  go_wp2_with fail
  go_region_with (go_at_call 57; ((with_reducible refine CC.out.mono ?_); rintro e W2 ⟨A2, c2, rfl, hO2, hB2, hs2, ⟨q0, q1, q2, q3⟩, ⟨r0, r1, r2, r3⟩⟩; have HO2 := Lib.hid hO2; have HB2 := Lib.hid hB2; clear hO2 hB2))
  all_goals
    go_wp2_with fail
    refine bodyPost_ret (v := contentV there (.slice A2 len c2)) (by simp [results, Try.results44, go_sem, r0, r1]) rfl ?_
    have hB3 := (HB2.out.setCell (p := ⟨w.heap.size + 1, 0, none⟩) (Nat.le_succ _) (.bool there)).setCell (p := ⟨w.heap.size + 1, 1, none⟩) (Nat.le_succ _) (.slice A2 len c2)
    exact ⟨_, rfl, ownB_low (ownB_put (ownB_put HO2.out (Nat.lt_succ_self _) _) (Nat.lt_succ_self _) _) (by omega), hB3⟩

/-- What Clone leaves, a new block ahead of it. -/
def Cloned1 (w : World) (bs : List Nat) (len : Nat) (x0 x1 : Value) (e : Ending) (W : World) : Prop :=
  ∃ A c, e = .returned (.slice A len c) ∧ OwnB W (w.heap.size + 1) 5 (.slice A len c) bs ∧ Below w.heap.size w W ∧ w.heap.size + 1 ≤ W.heap.size ∧ Two2 W w.heap.size x0 x1
theorem cloned1 (v : Value) (bs : List Nat) (hlen : bs.length ≤ 140737488351232) (w : World) (hI : Bytes w.heap.size w v bs) (x0 x1 : Value) (t : TypeId) :
    Calls Try.prog 57 #[v] ((w.alloc (.cells #[x0, x1] t)).drew) (Cloned1 w bs bs.length x0 x1) := by
  have hB := ((Below.refl w.heap.size w).alloc (Nat.le_refl _) (.cells #[x0, x1] t)).drew
  refine (clone_calls v bs hlen _ (hI.on hB)).mono ?_
  rintro e W ⟨v', rfl, hO, hB2⟩
  obtain ⟨A, c, rfl⟩ := hO.bytes.form
  have hsz : ((w.alloc (.cells #[x0, x1] t)).drew).heap.size = w.heap.size + 1 := by simp
  rw [hsz] at hO hB2
  exact ⟨A, c, rfl, hO, hB.trans (hB2.mono (by omega)), by have := hB2.size; rw [hsz] at this; exact this, two2 ((hB2.block _ (by omega)).trans (heap_alloc_new w _))⟩

/-- What read leaves. -/
def ReadOut (w : World) (there : Bool) (bs : List Nat) (e : Ending) (W : World) : Prop := ∃ v', e = .returned (.tuple #[v', .bool there]) ∧ OwnB W w.heap.size 5 v' bs ∧ Below w.heap.size w W

set_option maxRecDepth 100000 in
set_option maxHeartbeats 2000000 in
theorem read_calls (there : Bool) (v : Value) (bs : List Nat) (hlen : bs.length ≤ 140737488351232) (w : World) (hI : Bytes w.heap.size w v bs) :
    Calls Try.prog 41 #[contentV there v] w (ReadOut w there bs) := by
  obtain ⟨A, cap, rfl⟩ := hI.form
  obtain ⟨len, hl⟩ : ∃ len, bs.length = len := ⟨_, rfl⟩
  have cC := cloned1 (.slice A bs.length cap) bs hlen w hI (.bool there) (.slice A len cap) 75
  rw [hl] at cC ⊢
  have CC := Lib.hid cC
  clear hI cC hl
  go_enter Try.func41, Try.ntmps41
  go_wp2_with fail
  go_region_with (go_at_call 57; ((with_reducible refine CC.out.mono ?_); rintro e W2 ⟨A2, c2, rfl, hO2, hB2, hs2, ⟨q0, q1, q2, q3⟩⟩; have HO2 := Lib.hid hO2; have HB2 := Lib.hid hB2; clear hO2 hB2))
  all_goals
    go_wp2_with fail
    go_ret2
    exact ⟨_, rfl, ownB_low HO2.out (by omega), HB2.out⟩

end Go.Proofs.Ytlmohcmnoddncaa.Disk
