/-
  Contract of the law's known: the chapter's example.
-/
import Derived.Test.YtlcmnemneghohaaDedupRefTake
import Derived.Test.YtlcmnemneghohaaDedupOpen
namespace Go.Proofs.Ytlcmnemneghohaa.Dedup
open Go Go.RowKit Go.Lib Go.Sort Go.Shelf Go.Proofs Go.Proofs.Ytlcmnemneghohaa.Law

theorem wf_last {l : List Rw} (h : ∀ x ∈ l, wfRw x) (p q : Int) : -9223372036854775808 ≤ lastL l p q ∧ lastL l p q ≤ 9223372036854775807 := last_range fun x hx => (h x hx).2.2
theorem takeS_mem {l : List Rw} {p q n : Int} {x : Rw} (hx : x ∈ takeS l p q n) : x ∈ l ∨ x = ⟨p, q, n⟩ := by
  unfold takeS at hx
  rcases List.mem_append.1 hx with hx | hx
  · exact .inl (List.mem_filter.1 hx).1
  · rcases List.mem_cons.1 hx with rfl | hx
    · exact .inr rfl
    · exact .inl (List.mem_filter.1 hx).1
theorem takeS_len (l : List Rw) (p q n : Int) : (takeS l p q n).length ≤ l.length + 1 := by
  have := filters_le l (8 * p + q)
  unfold takeS
  rw [List.length_append, List.length_cons]
  omega
theorem takeL_len (l : List Rw) (p q s : Int) : (takeL l p q s).1.length ≤ l.length + 1 := by
  unfold takeL
  split
  · split
    · exact takeS_len l p q s
    · exact Nat.le_succ _
  · exact Nat.le_succ _
theorem takeL_mem {l : List Rw} {p q s : Int} {x : Rw} (hx : x ∈ (takeL l p q s).1) : x ∈ l ∨ (rightN p q = true ∧ x = ⟨p, q, s⟩) := by
  unfold takeL at hx
  split at hx
  · rename_i hr
    split at hx
    · exact (takeS_mem hx).imp id fun h => ⟨hr, h⟩
    · exact .inl hx
  · exact .inl hx
theorem takeL_wf {l : List Rw} (h : ∀ x ∈ l, wfRw x) {p q s : Int} (hs : i64 s) : ∀ x ∈ (takeL l p q s).1, wfRw x := fun x hx => by
  rcases takeL_mem hx with h1 | ⟨hr, rfl⟩
  · exact h x h1
  · obtain ⟨r1, r2, r3, r4⟩ := rightN_iff.1 hr
    exact ⟨⟨by show _ ≤ p; omega, by show p ≤ _; omega⟩, ⟨by show _ ≤ q; omega, by show q ≤ _; omega⟩, hs⟩
theorem takeL_good {l : List Rw} (h : Good l) (p q s : Int) : Good (takeL l p q s).1 := by
  unfold takeL
  split
  · rename_i hr
    split
    · rename_i hl
      refine h.take hr ?_
      rw [look_one] at hl
      have : -1 ≤ lastL l p q := by
        unfold lastL
        cases hf : l.find? (isIt p q) with
        | none => simp
        | some x =>
          have := (h.right x (List.mem_of_find?_eq_some hf)).2
          show -1 ≤ x.n
          omega
      omega
    · exact h
  · exact h

set_option maxRecDepth 1000000 in
set_option maxHeartbeats 4000000 in
theorem known_calls (w : World) : Calls Try.prog 7 #[] w (RetB w true) := by
  have hT : takeL [] 3 1 0 = ([⟨3, 1, 0⟩], 1) := by decide
  have C1 := Lib.hid (take_calls [] good_nil 3 1 0 (.slice none 0 0) w (by simp) (ThreeAt.nil _ _) (by decide) (by decide))
  rw [hT] at C1
  clear hT
  go_enter Try.func7, Try.ntmps7
  go_wp2_with fail
  refine C1.out.mono ?_
  rintro e W1 ⟨v, rfl, hO, hB1⟩
  obtain ⟨W2, hW2⟩ : ∃ W2, W1.alloc (.cells #[.int .i64 3, .int .i64 1, .int .i64 0] 42) = W2 := ⟨_, rfl⟩
  have hB2 : Below W1.heap.size W1 W2 := by rw [← hW2]; exact alloc_low _ _
  have hL := (OwnThree.lit (f := pV) (g := qV) (h := nV) 42 W1 W1.heap.size #[.int .i64 3, .int .i64 1, .int .i64 0] [⟨3, 1, 0⟩] 1 (Nat.le_refl _) rfl (by simp [maxLen]) rfl).old
  rw [hW2] at hL
  have hv : OldW W2.heap.size W2 v [⟨3, 1, 0⟩] := ThreeAt.on hB2 hO.old
  have CS := refSame_calls [⟨3, 1, 0⟩] [⟨3, 1, 0⟩] (by simp) (by simp) v _ W2 hv hL
  rw [decide_eq_true rfl] at CS
  have CS := Lib.hid CS
  have CL := Lib.hid fun (s : Int) (hs : -9223372036854775808 ≤ s ∧ s ≤ 9223372036854775807) (W : World) (hW : Below W2.heap.size W2 W) => look_calls [⟨3, 1, 0⟩] 3 1 s v W (by simp) (ThreeAt.on hW hv) (by decide) hs
  have HB := Lib.hid (hB1.trans (hB2.mono hB1.size))
  have HW := Lib.hid hW2
  clear hO hB1 hB2 hL hv hW2 C1
  go_wp2_with fail
  rw [HW.out]
  refine CS.out.mono ?_
  rintro e W3 ⟨rfl, hB3⟩
  have HB3 := Lib.hid hB3
  clear hB3 CS
  go_wp2_with fail
  refine (CL.out 0 (by decide) W3 HB3.out).mono ?_
  rintro e W4 ⟨rfl, hB4⟩
  have HB4 := Lib.hid (HB3.out.trans (hB4.mono HB3.out.size))
  clear hB4
  rw [show lookL (lastL [⟨3, 1, 0⟩] 3 1) 0 = 2 by decide]
  go_wp2_with fail
  refine (CL.out 3 (by decide) W4 HB4.out).mono ?_
  rintro e W5 ⟨rfl, hB5⟩
  have HB5 := Lib.hid (HB4.out.trans (hB5.mono HB4.out.size))
  clear hB5
  rw [show lookL (lastL [⟨3, 1, 0⟩] 3 1) 3 = 3 by decide]
  go_wp2_with fail
  go_ret
  exact ⟨rfl, HB.out.trans (HB5.out.mono HB.out.size)⟩

end Go.Proofs.Ytlcmnemneghohaa.Dedup
