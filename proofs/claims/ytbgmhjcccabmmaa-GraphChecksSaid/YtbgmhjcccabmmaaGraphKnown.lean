/-
  Contract of the law's known: the chapter's examples.
-/
import Derived.Test.YtbgmhjcccabmmaaGraphRefCheck
namespace Go.Proofs.Ytbgmhjcccabmmaa.Graph
open Go Go.RowKit Go.Proofs.Ytbgmhjcccabmmaa.Law

def ex1 : List Opr := [⟨1, [], 0, 0, 0, 0, 0⟩, ⟨6, [0, 0], 0, 0, 0, 0, 0⟩, ⟨8, [1], 0, 0, 0, 0, 0⟩]
def ex2 : List Opr := [⟨1, [], 0, 0, 0, 0, 0⟩]
theorem ex1_good : goodG ex1 := by
  refine ⟨by decide, by decide, fun j hj => ?_⟩
  have hj' : j < 3 := hj
  rcases (by omega : j = 0 ∨ j = 1 ∨ j = 2) with rfl | rfl | rfl
  · exact (okP_at (x := ⟨1, [], 0, 0, 0, 0, 0⟩) rfl).2 (by simp [okP, insP, formP, argP, takesP, loopP, wantN, ex1])
  · exact (okP_at (x := ⟨6, [0, 0], 0, 0, 0, 0, 0⟩) rfl).2 (by simp [okP, insP, formP, argP, takesP, loopP, wantN, ex1])
  · exact (okP_at (x := ⟨8, [1], 0, 0, 0, 0, 0⟩) rfl).2 (by simp [okP, insP, formP, argP, takesP, loopP, wantN, ex1])
theorem ex2_bad : Chk ex2 0 13 := by
  refine chk_bad (k := 0) (by decide) (by decide) (fun _ h => absurd h (Nat.not_lt_zero _)) ?_
  intro h
  have := (h ⟨1, [], 0, 0, 0, 0, 0⟩ rfl).1
  simp [ex2] at this

abbrev o1 : Obj := .cells #[.int .i64 0, .int .i64 0] 3
abbrev o2 : Obj := .cells #[.int .i64 1] 3
abbrev o3 (b : Nat) : Obj := .cells #[.int .i64 1, .slice none 0 0, .int .i64 0, .int .u32 0, .int .i64 0, .int .i64 0, .int .u32 0, .int .i64 6, .slice (some ⟨b, 0, none⟩) 2 2, .int .i64 0, .int .u32 0, .int .i64 0, .int .i64 0, .int .u32 0,
  .int .i64 8, .slice (some ⟨b + 1, 0, none⟩) 1 1, .int .i64 0, .int .u32 0, .int .i64 0, .int .i64 0, .int .u32 0] 49
abbrev o4 : Obj := .cells #[.int .i64 1, .slice none 0 0, .int .i64 0, .int .u32 0, .int .i64 0, .int .i64 0, .int .u32 0] 49

theorem ex1_at {W : World} {b : Nat} (h0 : W.heap[b]? = some o1) (h1 : W.heap[b + 1]? = some o2) (h2 : W.heap[b + 1 + 1]? = some (o3 b)) : OldO W.heap.size W (.slice (some ⟨b + 1 + 1, 0, none⟩) 3 3) ex1 := by
  refine ⟨_, 3, rfl, Nat.le_refl _, (fun h => by cases h), fun _ => ⟨b + 1 + 1, 0, rfl, lt_of_some h2, fun j x hx => ?_⟩⟩
  have hj : j < 3 := (List.getElem?_eq_some_iff.1 hx).1
  rcases (by omega : j = 0 ∨ j = 1 ∨ j = 2) with rfl | rfl | rfl
  · obtain rfl : (⟨1, [], 0, 0, 0, 0, 0⟩ : Opr) = x := by simpa [ex1] using hx
    exact ⟨.slice none 0 0, by simp [Cells7, World.cell?, h2], IntsAt.nil _ _⟩
  · obtain rfl : (⟨6, [0, 0], 0, 0, 0, 0, 0⟩ : Opr) = x := by simpa [ex1] using hx
    refine ⟨.slice (some ⟨b, 0, none⟩) 2 2, by simp [Cells7, World.cell?, h2], _, 2, rfl, Nat.le_refl _, (fun h => by cases h), fun _ => ⟨b, 0, rfl, lt_of_some h0, fun i y hy => ?_⟩⟩
    have hi : i < 2 := (List.getElem?_eq_some_iff.1 hy).1
    rcases (by omega : i = 0 ∨ i = 1) with rfl | rfl
    · obtain rfl : (0 : Int) = y := by simpa using hy
      simp [World.cell?, h0]
    · obtain rfl : (0 : Int) = y := by simpa using hy
      simp [World.cell?, h0]
  · obtain rfl : (⟨8, [1], 0, 0, 0, 0, 0⟩ : Opr) = x := by simpa [ex1] using hx
    refine ⟨.slice (some ⟨b + 1, 0, none⟩) 1 1, by simp [Cells7, World.cell?, h2], _, 1, rfl, Nat.le_refl _, (fun h => by cases h), fun _ => ⟨b + 1, 0, rfl, lt_of_some h1, fun i y hy => ?_⟩⟩
    have hi : i < 1 := (List.getElem?_eq_some_iff.1 hy).1
    obtain rfl : i = 0 := by omega
    obtain rfl : (1 : Int) = y := by simpa using hy
    simp [World.cell?, h1]
theorem ex2_at {W : World} {b : Nat} (h2 : W.heap[b]? = some o4) : OldO W.heap.size W (.slice (some ⟨b, 0, none⟩) 1 1) ex2 := by
  refine ⟨_, 1, rfl, Nat.le_refl _, (fun h => by cases h), fun _ => ⟨b, 0, rfl, lt_of_some h2, fun j x hx => ?_⟩⟩
  have hj : j < 1 := (List.getElem?_eq_some_iff.1 hx).1
  obtain rfl : j = 0 := by omega
  obtain rfl : (⟨1, [], 0, 0, 0, 0, 0⟩ : Opr) = x := by simpa [ex2] using hx
  exact ⟨.slice none 0 0, by simp [Cells7, World.cell?, h2], IntsAt.nil _ _⟩

set_option maxRecDepth 100000 in
set_option maxHeartbeats 4000000 in
theorem known_calls (w : World) : Calls Try.prog 10 #[] w (RetT true w) := by
  obtain ⟨w1, hw1⟩ : ∃ w1, (((w.alloc o1).alloc o2).alloc (o3 w.heap.size)).alloc (.cells #[.slice (some ⟨w.heap.size + 1 + 1, 0, none⟩) 3 3] 24) = w1 := ⟨_, rfl⟩
  have h0 : w1.heap[w.heap.size]? = some o1 := by
    rw [← hw1, Below.heap_alloc _ _ _ (by simp <;> omega), Below.heap_alloc _ _ _ (by simp <;> omega), Below.heap_alloc _ _ _ (by simp)]
    exact heap_alloc_new _ _
  have h1 : w1.heap[w.heap.size + 1]? = some o2 := by
    rw [← hw1, Below.heap_alloc _ _ _ (by simp <;> omega), Below.heap_alloc _ _ _ (by simp)]
    have := heap_alloc_new (w.alloc o1) o2
    rwa [World.size_alloc] at this
  have h2 : w1.heap[w.heap.size + 1 + 1]? = some (o3 w.heap.size) := by
    rw [← hw1, Below.heap_alloc _ _ _ (by simp)]
    have := heap_alloc_new ((w.alloc o1).alloc o2) (o3 w.heap.size)
    rwa [World.size_alloc, World.size_alloc] at this
  have hb1 : Below w.heap.size w w1 := by
    rw [← hw1]
    exact ((((Below.refl _ w).alloc (Nat.le_refl _) _).alloc (by simp) _).alloc (by simp <;> omega) _).alloc (by simp <;> omega) _
  have C1 := Lib.hid (check_calls ex1 (by decide) (by decide) _ w1 (ex1_at h0 h1 h2))
  have C2 := Lib.hid fun w => check_calls ex2 (by decide) (by decide) _ (w.alloc o4) (ex2_at (heap_alloc_new w o4))
  have HW1 := Lib.hid hw1
  have HB1 := Lib.hid hb1
  clear hw1 hb1 h0 h1 h2
  go_enter Try.func10, Try.ntmps10
  go_wp2_with fail
  rw [HW1.out]
  refine C1.out.mono ?_
  rintro e w2 ⟨i, er, rfl, hc, B2⟩
  obtain rfl := hc.good.2 ex1_good
  have HB2 := Lib.hid (HB1.out.trans (B2.mono HB1.out.size))
  clear B2 C1 hc
  go_wp2_with fail
  refine (C2.out _).mono ?_
  rintro e w3 ⟨i3, er3, rfl, hc, B3⟩
  obtain ⟨rfl, rfl⟩ := hc.uniq ex2_bad
  have HB3 := Lib.hid ((HB2.out.alloc HB2.out.size o4).trans (B3.mono (by have := HB2.out.size; simp; omega)))
  clear B3 hc C2
  go_wp2_with fail
  go_ret
  exact ⟨rfl, HB3.out⟩

end Go.Proofs.Ytbgmhjcccabmmaa.Graph
