/-
  Contracts of Int, Text and List; the chapter's example.
-/
import Derived.Test.YtffehnojcajhiaaWireCopied
import Derived.Test.YtffehnojcajhiaaWireEncode
import Derived.Test.YtffehnojcajhiaaSame
namespace Go.Proofs.Ytffehnojcajhiaa.Wire
open Go Go.RowKit Go.Proofs.Ytffehnojcajhiaa.Law

/-- The empty text. -/
abbrev noText : ByteArray := ⟨#[]⟩

set_option maxRecDepth 100000 in
theorem int_calls (n : Int) (w : World) : Calls Try.prog 32 #[.int .i64 n] w fun e W => e = .returned (.agg #[.int .i64 0, .int .i64 n, .string noText, .slice none 0 0]) ∧ Below w.heap.size w W := by
  go_enter Try.func32, Try.ntmps32
  go_wp2
  exact bodyPost_ret (v := .agg #[.int .i64 0, .int .i64 n, .string noText, .slice none 0 0]) (by simp [results, Try.results32, go_sem]) rfl ⟨rfl, (Below.refl _ _).alloc (Nat.le_refl _) _⟩

set_option maxRecDepth 100000 in
theorem text_calls (s : ByteArray) (w : World) : Calls Try.prog 33 #[.string s] w fun e W => e = .returned (.agg #[.int .i64 1, .int .i64 0, .string s, .slice none 0 0]) ∧ Below w.heap.size w W := by
  go_enter Try.func33, Try.ntmps33
  go_wp2
  exact bodyPost_ret (v := .agg #[.int .i64 1, .int .i64 0, .string s, .slice none 0 0]) (by simp [results, Try.results33, go_sem]) rfl ⟨rfl, (Below.refl _ _).alloc (Nat.le_refl _) _⟩

def RetList (w : World) (l : List Item) (e : Ending) (W : World) : Prop := ∃ v, e = .returned (.agg #[.int .i64 2, .int .i64 0, .string noText, v]) ∧ Fresh w W v l

set_option maxRecDepth 100000 in
set_option maxHeartbeats 2000000 in
theorem list_calls (l : List Item) (hl : l.length * 56 ≤ 140737488355328) (hroom : roomyL l) (sv : Value) (w : World) (hI : Old w.heap.size w sv l) : Calls Try.prog 52 #[sv] w (RetList w l) := by
  have cC := copied_calls (nodesL l + 1) l (by omega) hl hroom sv (w.alloc (.cells #[.int .i64 0, .int .i64 0, .string noText, .slice none 0 0] 71)) (Items.more (by simp) (Items.low ((Below.refl _ _).alloc (Nat.le_refl _) _) hI))
  have CC := Lib.hid cC
  clear cC
  go_enter Try.func52, Try.ntmps52
  go_wp2_with fail
  refine CC.out.mono ?_
  rintro e w1 ⟨v, rfl, h1, h2⟩
  obtain ⟨A, cap, rfl, _⟩ := h1.form
  have hbox : w1.heap[w.heap.size]? = some (Obj.cells #[.int .i64 0, .int .i64 0, .string noText, .slice none 0 0] 71) := (h2.block w.heap.size (by simp)).trans (heap_alloc_new w _)
  have q : w1.cell? ⟨w.heap.size, 0, none⟩ = some (.int .i64 0) ∧ w1.cell? ⟨w.heap.size, 1, none⟩ = some (.int .i64 0) ∧ w1.cell? ⟨w.heap.size, 2, none⟩ = some (.string noText) ∧ w1.cell? ⟨w.heap.size, 3, none⟩ = some (.slice none 0 0) ∧
      w1.frozen? ⟨w.heap.size, 0, none⟩ = false ∧ w1.frozen? ⟨w.heap.size, 1, none⟩ = false ∧ w1.frozen? ⟨w.heap.size, 2, none⟩ = false ∧ w1.frozen? ⟨w.heap.size, 3, none⟩ = false := by
    refine ⟨?_, ?_, ?_, ?_, ?_, ?_, ?_, ?_⟩ <;> simp [World.cell?, World.frozen?, hbox]
  obtain ⟨q0, q1, q2, q3, z0, z1, z2, z3⟩ := q
  have hfin : ((((w1.setCell ⟨w.heap.size, 0, none⟩ (.int .i64 2)).setCell ⟨w.heap.size, 1, none⟩ (.int .i64 0)).setCell ⟨w.heap.size, 2, none⟩ (.string noText)).setCell ⟨w.heap.size, 3, none⟩ (.slice A l.length cap)).heap[w.heap.size]? =
      some (Obj.cells #[.int .i64 2, .int .i64 0, .string noText, .slice A l.length cap] 71) := by simp [World.setCell, Array.getElem?_modify, hbox]
  have hB1 : Below w.heap.size w w1 := ((Below.refl _ _).alloc (Nat.le_refl _) _).trans (h2.mono (by simp))
  have hBf := ((((hB1.setCell (p := ⟨w.heap.size, 0, none⟩) (Nat.le_refl _) (.int .i64 2)).setCell (p := ⟨w.heap.size, 1, none⟩) (Nat.le_refl _) (.int .i64 0)).setCell (p := ⟨w.heap.size, 2, none⟩) (Nat.le_refl _) (.string noText)).setCell (p := ⟨w.heap.size, 3, none⟩) (Nat.le_refl _) (.slice A l.length cap))
  have hIf := h1.keep (W' := ((((w1.setCell ⟨w.heap.size, 0, none⟩ (.int .i64 2)).setCell ⟨w.heap.size, 1, none⟩ (.int .i64 0)).setCell ⟨w.heap.size, 2, none⟩ (.string noText)).setCell ⟨w.heap.size, 3, none⟩ (.slice A l.length cap)))
    (T := fun b => w.heap.size ≤ b ∧ b < ((((w1.setCell ⟨w.heap.size, 0, none⟩ (.int .i64 2)).setCell ⟨w.heap.size, 1, none⟩ (.int .i64 0)).setCell ⟨w.heap.size, 2, none⟩ (.string noText)).setCell ⟨w.heap.size, 3, none⟩ (.slice A l.length cap)).heap.size)
    (fun b hb => by
      have hne : b ≠ w.heap.size := by have := hb.1; simp at this; omega
      rw [Below.heap_setCell _ _ _ _ hne, Below.heap_setCell _ _ _ _ hne, Below.heap_setCell _ _ _ _ hne, Below.heap_setCell _ _ _ _ hne])
    (fun b hb => by
      refine ⟨by have := hb.1; simp at this; omega, ?_⟩
      have := hb.2
      simpa [World.setCell] using this)
  have HFIN := Lib.hid hfin
  have HBF := Lib.hid hBf
  have HIF := Lib.hid hIf
  clear hbox CC hfin hBf hIf h1 h2 hB1 hroom hl hI
  go_wp2
  have hfin := HFIN.out
  have hBf := HBF.out
  have hIf := HIF.out
  clear HFIN HBF HIF
  generalize ((((w1.setCell ⟨w.heap.size, 0, none⟩ (.int .i64 2)).setCell ⟨w.heap.size, 1, none⟩ (.int .i64 0)).setCell ⟨w.heap.size, 2, none⟩ (.string noText)).setCell ⟨w.heap.size, 3, none⟩ (.slice A l.length cap)) = W at hfin hBf hIf ⊢
  have p : W.cell? ⟨w.heap.size, 0, none⟩ = some (.int .i64 2) ∧ W.cell? ⟨w.heap.size, 1, none⟩ = some (.int .i64 0) ∧ W.cell? ⟨w.heap.size, 2, none⟩ = some (.string noText) ∧ W.cell? ⟨w.heap.size, 3, none⟩ = some (.slice A l.length cap) := by
    refine ⟨?_, ?_, ?_, ?_⟩ <;> simp [World.cell?, hfin]
  obtain ⟨p0, p1, p2, p3⟩ := p
  exact bodyPost_ret (v := .agg #[.int .i64 2, .int .i64 0, .string noText, .slice A l.length cap]) (by simp [results, Try.results52, go_sem, p0, p1, p2, p3]) rfl ⟨_, rfl, hIf, hBf⟩

/-- The chapter's example, as items. -/
def exampleL : List Item := [.mk 0 5 noText [], .mk 0 (-1) noText [], .mk 1 0 ⟨#[97]⟩ [], .mk 2 0 noText [.mk 0 0 noText []]]
theorem example_enc : encN exampleL = ([0, 10, 0, 1, 1, 1, 97, 2, 1, 0, 0], 0) := by decide +kernel
theorem example_sized : sizedL exampleL := by
  simp [exampleL, sizedL, Item.sized]
  decide

theorem cell_new (w : World) (cs : Array Value) (t : TypeId) (i : Nat) (v : Value) (h : cs[i]? = some v) : (w.alloc (.cells cs t)).cell? ⟨w.heap.size, i, none⟩ = some v := by
  unfold World.cell?
  rw [heap_alloc_new]
  exact h

theorem one_zero (w : World) : Old (w.heap.size + 1) (w.alloc (.cells #[.int .i64 0, .int .i64 0, .string noText, .slice none 0 0] 71)) (.slice (some ⟨w.heap.size, 0, none⟩) 1 1) [.mk 0 0 noText []] := by
  refine .row w.heap.size 0 1 1 _ (fun _ => .slice none 0 0) rfl (Nat.le_refl _) (fun _ => Nat.lt_succ_self _) (fun j x hx => ?_) (fun j x hx => ?_)
  · match j, hx with
    | 0, hx => simp at hx; subst hx; exact ⟨cell_new _ _ _ _ _ rfl, cell_new _ _ _ _ _ rfl, cell_new _ _ _ _ _ rfl, cell_new _ _ _ _ _ rfl⟩
  · match j, hx with
    | 0, hx => simp at hx; subst hx; exact .nil none 0 _ (fun _ => rfl) rfl

theorem four_items (w : World) (v : Value) (h : Old w.heap.size w v [.mk 0 0 noText []]) :
    Old (w.heap.size + 1) (w.alloc (.cells #[.int .i64 0, .int .i64 5, .string noText, .slice none 0 0, .int .i64 0, .int .i64 (-1), .string noText, .slice none 0 0, .int .i64 1, .int .i64 0, .string ⟨#[97]⟩, .slice none 0 0, .int .i64 2, .int .i64 0, .string noText, v] 71)) (.slice (some ⟨w.heap.size, 0, none⟩) 4 4) exampleL := by
  have hk := Items.more (Nat.le_succ w.heap.size) (Items.low ((Below.refl w.heap.size w).alloc (Nat.le_refl _) (.cells #[.int .i64 0, .int .i64 5, .string noText, .slice none 0 0, .int .i64 0, .int .i64 (-1), .string noText, .slice none 0 0, .int .i64 1, .int .i64 0, .string ⟨#[97]⟩, .slice none 0 0, .int .i64 2, .int .i64 0, .string noText, v] 71)) h)
  refine .row w.heap.size 0 4 4 _ (fun j => if j = 3 then v else .slice none 0 0) rfl (Nat.le_refl _) (fun _ => Nat.lt_succ_self _) (fun j x hx => ?_) (fun j x hx => ?_)
  · match j, hx with
    | 0, hx => simp [exampleL] at hx; subst hx; exact ⟨cell_new _ _ _ _ _ rfl, cell_new _ _ _ _ _ rfl, cell_new _ _ _ _ _ rfl, cell_new _ _ _ _ _ rfl⟩
    | 1, hx => simp [exampleL] at hx; subst hx; exact ⟨cell_new _ _ _ _ _ rfl, cell_new _ _ _ _ _ rfl, cell_new _ _ _ _ _ rfl, cell_new _ _ _ _ _ rfl⟩
    | 2, hx => simp [exampleL] at hx; subst hx; exact ⟨cell_new _ _ _ _ _ rfl, cell_new _ _ _ _ _ rfl, cell_new _ _ _ _ _ rfl, cell_new _ _ _ _ _ rfl⟩
    | 3, hx => simp [exampleL] at hx; subst hx; exact ⟨cell_new _ _ _ _ _ rfl, cell_new _ _ _ _ _ rfl, cell_new _ _ _ _ _ rfl, cell_new _ _ _ _ _ rfl⟩
    | j + 4, hx => simp [exampleL] at hx
  · match j, hx with
    | 0, hx => simp [exampleL] at hx; subst hx; exact .nil none 0 _ (fun _ => rfl) rfl
    | 1, hx => simp [exampleL] at hx; subst hx; exact .nil none 0 _ (fun _ => rfl) rfl
    | 2, hx => simp [exampleL] at hx; subst hx; exact .nil none 0 _ (fun _ => rfl) rfl
    | 3, hx => simp [exampleL] at hx; subst hx; exact hk
    | j + 4, hx => simp [exampleL] at hx

end Go.Proofs.Ytffehnojcajhiaa.Wire
