/-
  Contracts of Int, Text and List; the chapter's example.
-/
import Derived.Test.YtjahkbomminglaaWireCopied
import Derived.Test.YtjahkbomminglaaWireEncode
import Derived.Test.YtjahkbomminglaaSame
namespace Go.Proofs.Ytjahkbomminglaa.Wire
open Go Go.RowKit Go.Proofs.Ytjahkbomminglaa.Law

/-- The empty text. -/
abbrev noText : ByteArray := ⟨#[]⟩

set_option maxRecDepth 100000 in
theorem int_calls (n : Int) (w : World) : Calls Try.prog 16 #[.int .i64 n] w fun e W => e = .returned (.agg #[.int .i64 0, .int .i64 n, .string noText, .slice none 0 0]) ∧ Below w.heap.size w W := by
  go_enter Try.func16, Try.ntmps16
  go_wp2
  exact bodyPost_ret (v := .agg #[.int .i64 0, .int .i64 n, .string noText, .slice none 0 0]) (by simp [results, Try.results16, go_sem]) rfl ⟨rfl, (Below.refl _ _).alloc (Nat.le_refl _) _⟩

set_option maxRecDepth 100000 in
theorem text_calls (s : ByteArray) (w : World) : Calls Try.prog 17 #[.string s] w fun e W => e = .returned (.agg #[.int .i64 1, .int .i64 0, .string s, .slice none 0 0]) ∧ Below w.heap.size w W := by
  go_enter Try.func17, Try.ntmps17
  go_wp2
  exact bodyPost_ret (v := .agg #[.int .i64 1, .int .i64 0, .string s, .slice none 0 0]) (by simp [results, Try.results17, go_sem]) rfl ⟨rfl, (Below.refl _ _).alloc (Nat.le_refl _) _⟩

def RetList (w : World) (l : List Item) (e : Ending) (W : World) : Prop := ∃ v, e = .returned (.agg #[.int .i64 2, .int .i64 0, .string noText, v]) ∧ Fresh w W v l

set_option maxRecDepth 100000 in
set_option maxHeartbeats 2000000 in
theorem list_calls (l : List Item) (hl : l.length * 56 ≤ 140737488355328) (hroom : roomyL l) (sv : Value) (w : World) (hI : Old w.heap.size w sv l) : Calls Try.prog 18 #[sv] w (RetList w l) := by
  have cC := copied_calls (nodesL l + 1) l (by omega) hl hroom sv (w.alloc (.cells #[.int .i64 0, .int .i64 0, .string noText, .slice none 0 0] 40)) (Items.more (by simp) (Items.low ((Below.refl _ _).alloc (Nat.le_refl _) _) hI))
  have CC := Lib.hid cC
  clear cC
  go_enter Try.func18, Try.ntmps18
  go_wp2_with fail
  refine CC.out.mono ?_
  rintro e w1 ⟨v, rfl, h1, h2⟩
  obtain ⟨A, cap, rfl, _⟩ := h1.form
  have hbox : w1.heap[w.heap.size]? = some (Obj.cells #[.int .i64 0, .int .i64 0, .string noText, .slice none 0 0] 40) := (h2.block w.heap.size (by simp)).trans (heap_alloc_new w _)
  have q : w1.cell? ⟨w.heap.size, 0, none⟩ = some (.int .i64 0) ∧ w1.cell? ⟨w.heap.size, 1, none⟩ = some (.int .i64 0) ∧ w1.cell? ⟨w.heap.size, 2, none⟩ = some (.string noText) ∧ w1.cell? ⟨w.heap.size, 3, none⟩ = some (.slice none 0 0) ∧
      w1.frozen? ⟨w.heap.size, 0, none⟩ = false ∧ w1.frozen? ⟨w.heap.size, 1, none⟩ = false ∧ w1.frozen? ⟨w.heap.size, 2, none⟩ = false ∧ w1.frozen? ⟨w.heap.size, 3, none⟩ = false := by
    refine ⟨?_, ?_, ?_, ?_, ?_, ?_, ?_, ?_⟩ <;> simp [World.cell?, World.frozen?, hbox]
  obtain ⟨q0, q1, q2, q3, z0, z1, z2, z3⟩ := q
  have hfin : ((((w1.setCell ⟨w.heap.size, 0, none⟩ (.int .i64 2)).setCell ⟨w.heap.size, 1, none⟩ (.int .i64 0)).setCell ⟨w.heap.size, 2, none⟩ (.string noText)).setCell ⟨w.heap.size, 3, none⟩ (.slice A l.length cap)).heap[w.heap.size]? =
      some (Obj.cells #[.int .i64 2, .int .i64 0, .string noText, .slice A l.length cap] 40) := by simp [World.setCell, Array.getElem?_modify, hbox]
  have hB1 : Below w.heap.size w w1 := ((Below.refl _ _).alloc (Nat.le_refl _) _).trans (h2.mono (by simp))
  have hBf := ((((hB1.setCell (p := ⟨w.heap.size, 0, none⟩) (Nat.le_refl _) (.int .i64 2)).setCell (p := ⟨w.heap.size, 1, none⟩) (Nat.le_refl _) (.int .i64 0)).setCell (p := ⟨w.heap.size, 2, none⟩) (Nat.le_refl _) (.string noText)).setCell (p := ⟨w.heap.size, 3, none⟩) (Nat.le_refl _) (.slice A l.length cap))
  have hIf := h1.keep (W' := ((((w1.setCell ⟨w.heap.size, 0, none⟩ (.int .i64 2)).setCell ⟨w.heap.size, 1, none⟩ (.int .i64 0)).setCell ⟨w.heap.size, 2, none⟩ (.string noText)).setCell ⟨w.heap.size, 3, none⟩ (.slice A l.length cap)))
    (T := fun b => w.heap.size ≤ b ∧ b < ((((w1.setCell ⟨w.heap.size, 0, none⟩ (.int .i64 2)).setCell ⟨w.heap.size, 1, none⟩ (.int .i64 0)).setCell ⟨w.heap.size, 2, none⟩ (.string noText)).setCell ⟨w.heap.size, 3, none⟩ (.slice A l.length cap)).heap.size)
    (fun b hb => by
      have hne : b ≠ w.heap.size := by have := hb.1; simp at this; omega
      rw [Below.heap_setCell _ _ _ _ hne, Below.heap_setCell _ _ _ _ hne, Below.heap_setCell _ _ _ _ hne, Below.heap_setCell _ _ _ _ hne])
    (fun b hb => by
      refine ⟨by have := hb.1; simp at this; omega, ?_⟩
      have := hb.2
      simpa [World.setCell] using this)
  have HFIN := Lib.hid hfin
  have HBF := Lib.hid hBf
  have HIF := Lib.hid hIf
  clear hbox CC hfin hBf hIf h1 h2 hB1 hroom hl hI
  go_wp2
  have hfin := HFIN.out
  have hBf := HBF.out
  have hIf := HIF.out
  clear HFIN HBF HIF
  generalize ((((w1.setCell ⟨w.heap.size, 0, none⟩ (.int .i64 2)).setCell ⟨w.heap.size, 1, none⟩ (.int .i64 0)).setCell ⟨w.heap.size, 2, none⟩ (.string noText)).setCell ⟨w.heap.size, 3, none⟩ (.slice A l.length cap)) = W at hfin hBf hIf ⊢
  have p : W.cell? ⟨w.heap.size, 0, none⟩ = some (.int .i64 2) ∧ W.cell? ⟨w.heap.size, 1, none⟩ = some (.int .i64 0) ∧ W.cell? ⟨w.heap.size, 2, none⟩ = some (.string noText) ∧ W.cell? ⟨w.heap.size, 3, none⟩ = some (.slice A l.length cap) := by
    refine ⟨?_, ?_, ?_, ?_⟩ <;> simp [World.cell?, hfin]
  obtain ⟨p0, p1, p2, p3⟩ := p
  exact bodyPost_ret (v := .agg #[.int .i64 2, .int .i64 0, .string noText, .slice A l.length cap]) (by simp [results, Try.results18, go_sem, p0, p1, p2, p3]) rfl ⟨_, rfl, hIf, hBf⟩

/-- The chapter's example, as items. -/
def exampleL : List Item := [.mk 0 5 noText [], .mk 0 (-1) noText [], .mk 1 0 ⟨#[97]⟩ [], .mk 2 0 noText [.mk 0 0 noText []]]
theorem example_enc : encN exampleL = ([0, 10, 0, 1, 1, 1, 97, 2, 1, 0, 0], 0) := by decide +kernel
theorem example_sized : sizedL exampleL := by
  simp [exampleL, sizedL, Item.sized]
  decide

theorem cell_new (w : World) (cs : Array Value) (t : TypeId) (i : Nat) (v : Value) (h : cs[i]? = some v) : (w.alloc (.cells cs t)).cell? ⟨w.heap.size, i, none⟩ = some v := by
  unfold World.cell?
  rw [heap_alloc_new]
  exact h

theorem one_zero (w : World) : Old (w.heap.size + 1) (w.alloc (.cells #[.int .i64 0, .int .i64 0, .string noText, .slice none 0 0] 40)) (.slice (some ⟨w.heap.size, 0, none⟩) 1 1) [.mk 0 0 noText []] := by
  refine .row w.heap.size 0 1 1 _ (fun _ => .slice none 0 0) rfl (Nat.le_refl _) (fun _ => Nat.lt_succ_self _) (fun j x hx => ?_) (fun j x hx => ?_)
  · match j, hx with
    | 0, hx => simp at hx; subst hx; exact ⟨cell_new _ _ _ _ _ rfl, cell_new _ _ _ _ _ rfl, cell_new _ _ _ _ _ rfl, cell_new _ _ _ _ _ rfl⟩
  · match j, hx with
    | 0, hx => simp at hx; subst hx; exact .nil none 0 _ (fun _ => rfl) rfl

theorem four_items (w : World) (v : Value) (h : Old w.heap.size w v [.mk 0 0 noText []]) :
    Old (w.heap.size + 1) (w.alloc (.cells #[.int .i64 0, .int .i64 5, .string noText, .slice none 0 0, .int .i64 0, .int .i64 (-1), .string noText, .slice none 0 0, .int .i64 1, .int .i64 0, .string ⟨#[97]⟩, .slice none 0 0, .int .i64 2, .int .i64 0, .string noText, v] 40)) (.slice (some ⟨w.heap.size, 0, none⟩) 4 4) exampleL := by
  have hk := Items.more (Nat.le_succ w.heap.size) (Items.low ((Below.refl w.heap.size w).alloc (Nat.le_refl _) (.cells #[.int .i64 0, .int .i64 5, .string noText, .slice none 0 0, .int .i64 0, .int .i64 (-1), .string noText, .slice none 0 0, .int .i64 1, .int .i64 0, .string ⟨#[97]⟩, .slice none 0 0, .int .i64 2, .int .i64 0, .string noText, v] 40)) h)
  refine .row w.heap.size 0 4 4 _ (fun j => if j = 3 then v else .slice none 0 0) rfl (Nat.le_refl _) (fun _ => Nat.lt_succ_self _) (fun j x hx => ?_) (fun j x hx => ?_)
  · match j, hx with
    | 0, hx => simp [exampleL] at hx; subst hx; exact ⟨cell_new _ _ _ _ _ rfl, cell_new _ _ _ _ _ rfl, cell_new _ _ _ _ _ rfl, cell_new _ _ _ _ _ rfl⟩
    | 1, hx => simp [exampleL] at hx; subst hx; exact ⟨cell_new _ _ _ _ _ rfl, cell_new _ _ _ _ _ rfl, cell_new _ _ _ _ _ rfl, cell_new _ _ _ _ _ rfl⟩
    | 2, hx => simp [exampleL] at hx; subst hx; exact ⟨cell_new _ _ _ _ _ rfl, cell_new _ _ _ _ _ rfl, cell_new _ _ _ _ _ rfl, cell_new _ _ _ _ _ rfl⟩
    | 3, hx => simp [exampleL] at hx; subst hx; exact ⟨cell_new _ _ _ _ _ rfl, cell_new _ _ _ _ _ rfl, cell_new _ _ _ _ _ rfl, cell_new _ _ _ _ _ rfl⟩
    | j + 4, hx => simp [exampleL] at hx
  · match j, hx with
    | 0, hx => simp [exampleL] at hx; subst hx; exact .nil none 0 _ (fun _ => rfl) rfl
    | 1, hx => simp [exampleL] at hx; subst hx; exact .nil none 0 _ (fun _ => rfl) rfl
    | 2, hx => simp [exampleL] at hx; subst hx; exact .nil none 0 _ (fun _ => rfl) rfl
    | 3, hx => simp [exampleL] at hx; subst hx; exact hk
    | j + 4, hx => simp [exampleL] at hx

set_option maxRecDepth 100000 in
set_option maxHeartbeats 4000000 in
theorem known_calls (w : World) : Calls Try.prog 11 #[] w fun e W => e = .returned (.bool true) ∧ Below w.heap.size w W := by
  have hB := Lib.hid (Below.refl w.heap.size w)
  go_enter Try.func11, Try.ntmps11
  go_wp2_with fail
  refine (int_calls 5 _).mono ?_
  rintro e w1 ⟨rfl, B1⟩
  have hB1 := Lib.hid (hB.out.trans (B1.mono (Nat.le_refl _)))
  have hs1 := hB1.out.size
  clear B1 hB
  go_wp2_with fail
  refine (int_calls (-1) _).mono ?_
  rintro e w2 ⟨rfl, B2⟩
  have hB2 := Lib.hid (hB1.out.trans (B2.mono hs1))
  have hs2 := hB2.out.size
  clear B2 hB1 hs1
  go_wp2_with fail
  refine (text_calls _ _).mono ?_
  rintro e w3 ⟨rfl, B3⟩
  have hB3 := Lib.hid (hB2.out.trans (B3.mono hs2))
  have hs3 := hB3.out.size
  clear B3 hB2 hs2
  go_wp2_with fail
  refine (int_calls 0 _).mono ?_
  rintro e w4 ⟨rfl, B4⟩
  have hB4 := Lib.hid (hB3.out.trans (B4.mono hs3))
  have hs4 := hB4.out.size
  clear B4 hB3 hs3
  go_wp2_with fail
  refine (list_calls [.mk 0 0 noText []] (by decide) (by simp [roomyL, Item.roomy]) _ _ (by simpa using one_zero w4)).mono ?_
  rintro e w5 ⟨v, rfl, h5, B5⟩
  have hB5 := Lib.hid ((hB4.out.alloc hs4 (.cells #[.int .i64 0, .int .i64 0, .string noText, .slice none 0 0] 40)).trans (B5.mono (by simp; omega)))
  have hs5 := hB5.out.size
  have hI5 := four_items w5 v (h5.mono (fun b hb => hb.2))
  obtain ⟨A, cap, rfl, _⟩ := h5.form
  have HI5 := Lib.hid hI5
  clear B5 hB4 hs4 h5 hI5
  go_wp2_with fail
  refine (encode_calls exampleL example_sized (by decide) _ _ (by simpa using HI5.out)).mono ?_
  rintro e w6 ⟨v6, rfl, O6, B6⟩
  have hB6 := Lib.hid ((hB5.out.alloc hs5 (.cells #[.int .i64 0, .int .i64 5, .string noText, .slice none 0 0, .int .i64 0, .int .i64 (-1), .string noText, .slice none 0 0, .int .i64 1, .int .i64 0, .string ⟨#[97]⟩, .slice none 0 0, .int .i64 2, .int .i64 0, .string noText, .slice A 1 cap] 40)).trans (B6.mono (by simp; omega)))
  rw [example_enc] at O6 ⊢
  have c1 := run_string_bytes (P := Try.prog) w6 Try.underlying23 Try.underlying5 Try.underlying9 O6.bytes
  obtain ⟨A6, c6, rfl⟩ := O6.bytes.form
  have hstr : str [0, 10, 0, 1, 1, 1, 97, 2, 1, 0, 0] = ⟨#[0, 10, 0, 1, 1, 1, 97, 2, 1, 0, 0]⟩ := by decide
  rw [hstr] at c1
  have c2 : (convert 23 9 (.slice A6 11 c6)).run Try.prog w6 = .ok (.string ⟨#[0, 10, 0, 1, 1, 1, 97, 2, 1, 0, 0]⟩) w6 := c1
  clear O6 B6 hB5 HI5 hs5 hstr c1
  go_wp2
  go_ret
  exact ⟨rfl, hB6.out⟩

end Go.Proofs.Ytjahkbomminglaa.Wire
