/-
  Contracts of Clone, copied, Int, Text and List.
-/
import Derived.Test.YtffehnojcajhiaaWireRows
import Derived.Laws.IdiomStrings
import Derived.Lib.SliceRun
import Derived.OwnWalk
import Derived.LoopTactic
namespace Go.Proofs.Ytffehnojcajhiaa.Wire
open Go Go.RowKit Go.Proofs.Ytffehnojcajhiaa.Law

mutual
/-- All lists are short enough to be copied. -/
def Item.roomy : Item → Prop
  | .mk _ _ _ l => l.length * 56 ≤ 140737488355328 ∧ roomyL l
def roomyL : List Item → Prop
  | [] => True
  | x :: r => x.roomy ∧ roomyL r
end
theorem roomyL_get : ∀ {l : List Item} {k : Nat} {x : Item}, l[k]? = some x → roomyL l → x.kids.length * 56 ≤ 140737488355328 ∧ roomyL x.kids
  | [], k, x, h, _ => by simp at h
  | y :: r, 0, x, h, hf => by simp at h; subst h; rw [roomyL] at hf; have := hf.1; cases y; rw [Item.roomy] at this; exact this
  | y :: r, k + 1, x, h, hf => by rw [roomyL] at hf; exact roomyL_get (l := r) (k := k) (by simpa using h) hf.2

/-- Items in memory that is new since w. -/
def Fresh (w W : World) (v : Value) (l : List Item) : Prop := Items (fun b => w.heap.size ≤ b ∧ b < W.heap.size) W v l ∧ Below w.heap.size w W
def RetFresh (w : World) (l : List Item) (e : Ending) (W : World) : Prop := ∃ v, e = .returned v ∧ Fresh w W v l

theorem Fresh.mono {w W W' : World} {v : Value} {l : List Item} (h : Fresh w W v l) (hB : Below W.heap.size W W') : Fresh w W' v l :=
  ⟨h.1.keep (fun b hb => hB.block b hb.2) (fun _ hb => ⟨hb.1, Nat.lt_of_lt_of_le hb.2 hB.size⟩), h.2.trans (hB.mono h.2.size)⟩

set_option maxRecDepth 100000 in
set_option maxHeartbeats 4000000 in
theorem clone_calls (l : List Item) (hroom : l.length * 56 ≤ 140737488355328) (b off len cap : Nat) (u : Nat → Value) (w : World) (hl : l.length = len)
    (hcell : ∀ j x, l[j]? = some x → Cells4 w b (off + j * 4) x (u j)) (hu : ∀ j, j < l.length → (u j).oneCell' = true) :
    Calls Try.prog 72 #[.slice (some ⟨b, off, none⟩) len cap] w fun e W => ∃ g c, e = .returned (.slice (some ⟨g, 0, none⟩) len c) ∧ OwnR W w.heap.size (.slice (some ⟨g, 0, none⟩) len c) l u ∧ Below w.heap.size w W := by
  have h0 : OwnR (w.alloc (.cells #[] 71)) w.heap.size (.slice (some ⟨w.heap.size, 0, none⟩) 0 0) [] u := ⟨by simpa [flat] using World.ownsRow_made (e := 71) (size := 4) w #[] 0 (Nat.le_refl _) (by simp [maxLen]) rfl, fun j h => by simp at h⟩
  obtain ⟨v', w', hrun, hO, hG, hor⟩ := run_append_items (w.alloc (.cells #[] 71)) 51 h0 b off cap (m := l) (u := u)
    (fun j x hx => (hcell j x hx).keep (by
      have hb : b < w.heap.size := block_lt_cell (hcell j x hx).1
      exact Below.heap_alloc w _ b hb)) hu (by simpa using hroom) (by simp)
  rw [hl] at hrun
  have hB : Below w.heap.size w w' := ((Below.refl _ _).alloc (Nat.le_refl _) _).grown hG (by simp) (fun k hk => by simp only [Value.ownBlock, Option.some.injEq] at hk; omega)
  have hform : ∃ g c, v' = .slice (some ⟨g, 0, none⟩) len c := by
    rcases hO.1.2 with ⟨rfl, _⟩ | ⟨g, c, cur, rfl, _⟩
    · rcases hor with h | h <;> simp [Value.ownBlock] at h
    · exact ⟨g, c, by simp [hl]⟩
  obtain ⟨g, c, rfl⟩ := hform
  have hO2 : OwnR w' w.heap.size (.slice (some ⟨g, 0, none⟩) len c) l u := by simpa using hO
  have HR := Lib.hid hrun
  have HO := Lib.hid hO2
  have HB := Lib.hid hB
  clear hrun hO hO2 hB hG h0 hcell hu hor
  have q22 : ∀ (w : World) (a : Option Addr) (n c n' c' : Nat), (binOp .eql 51 (.slice a n c) (.slice none n' c')).run Try.prog w = .ok (.bool a.isNone) w := fun w a n c n' c' => Lib.run_eql_slice_nil w _ _ a n c n' c' Try.underlying51
  go_enter Try.func72, Try.ntmps72
  go_wp2_with (at_builtin; refine wpList_append_ran rfl _ _ _ rfl rfl rfl HR.out ?_)
  go_ret
  exact ⟨g, c, rfl, HO.out, HB.out⟩

def RetEmpty (w : World) (e : Ending) (W : World) : Prop := ∃ g c, e = .returned (.slice (some ⟨g, 0, none⟩) 0 c) ∧ Below w.heap.size w W

set_option maxRecDepth 100000 in
theorem clone_empty (a : Addr) (cap : Nat) (w : World) : Calls Try.prog 72 #[.slice (some a) 0 cap] w (RetEmpty w) := by
  obtain ⟨i0, hi, hz0, hz1, hz2⟩ := info_parts info_item
  have h0 : (w.alloc (.cells #[] 71)).ownsRow w.heap.size 71 4 (.slice (some ⟨w.heap.size, 0, none⟩) 0 0) 0 [] := World.ownsRow_made (e := 71) (size := 4) w #[] 0 (Nat.le_refl _) (by simp [maxLen]) rfl
  obtain ⟨v', w', hrun, h2, h3, _, h5⟩ := run_append_own_at (P := Try.prog) (w.alloc (.cells #[] 71)) w.heap.size 51 51 71 i0 _ 4 56 Try.underlying51 hi hz0 hz1 hz2 rfl (by decide) _ 0 [] h0 a 0 cap [] rfl (fun j u h => by simp at h) (fun u h => by simp at h) (by simp [maxLen]) (by decide) (by simp)
  have hB : Below w.heap.size w w' := ((Below.refl _ _).alloc (Nat.le_refl _) _).grown h3 (by simp) (fun k hk => by simp only [Value.ownBlock, Option.some.injEq] at hk; omega)
  have hform : ∃ g c, v' = .slice (some ⟨g, 0, none⟩) 0 c := by
    rcases h2.2 with ⟨rfl, _⟩ | ⟨g, c, cur, rfl, _⟩
    · rcases h5 with h | h <;> simp [Value.ownBlock] at h
    · exact ⟨g, c, rfl⟩
  obtain ⟨g, c, rfl⟩ := hform
  have HR := Lib.hid hrun
  have HB := Lib.hid hB
  clear hrun h2 hB h3 h0 h5
  have q22 : ∀ (w : World) (a : Option Addr) (n c n' c' : Nat), (binOp .eql 51 (.slice a n c) (.slice none n' c')).run Try.prog w = .ok (.bool a.isNone) w := fun w a n c n' c' => Lib.run_eql_slice_nil w _ _ a n c n' c' Try.underlying51
  go_enter Try.func72, Try.ntmps72
  go_wp2_with (at_builtin; refine wpList_append_ran rfl _ _ _ rfl rfl rfl HR.out ?_)
  go_ret
  exact ⟨g, c, rfl, HB.out⟩

theorem clone_nil (w : World) : Calls Try.prog 72 #[.slice none 0 0] w fun e W => e = .returned (.slice none 0 0) ∧ w = W := by
  have q22 : ∀ (w : World) (a : Option Addr) (n c n' c' : Nat), (binOp .eql 51 (.slice a n c) (.slice none n' c')).run Try.prog w = .ok (.bool a.isNone) w := fun w a n c n' c' => Lib.run_eql_slice_nil w _ _ a n c n' c' Try.underlying51
  go_enter Try.func72, Try.ntmps72
  go_wp2
  go_ret
  exact ⟨rfl, rfl⟩

set_option maxRecDepth 100000 in
set_option maxHeartbeats 4000000 in
theorem copied_calls : ∀ (m : Nat) (l : List Item), nodesL l < m → l.length * 56 ≤ 140737488355328 → roomyL l → ∀ (sv : Value) (w : World), Old w.heap.size w sv l →
    Calls Try.prog 66 #[sv] w (RetFresh w l) := by
  intro m
  induction m with
  | zero => exact fun _ h => absurd h (Nat.not_lt_zero _)
  | succ m ih =>
    intro l hm hlr hroom sv w hI
    cases hI with
    | nil A cap l hA hl =>
      subst hl
      cases A with
      | none =>
        obtain rfl := hA rfl
        go_enter Try.func66, Try.ntmps66
        go_wp2_with fail
        refine (clone_nil w).mono ?_
        rintro e W ⟨rfl, rfl⟩
        go_wp2_with fail
        go_loopw [9] (fun i wr => i = .int .i64 0 ∧ w = wr) (fun _ _ => 0)
        case atStart => exact ⟨rfl, rfl⟩
        case round =>
          obtain ⟨rfl, rfl⟩ := hrel
          go_wp2_with fail
          go_ret
          exact ⟨_, rfl, .nil none 0 [] (fun _ => rfl) rfl, Below.refl _ _⟩
      | some a =>
        go_enter Try.func66, Try.ntmps66
        go_wp2_with fail
        refine (clone_empty a cap w).mono ?_
        rintro e W ⟨g, c, rfl, hB⟩
        have HB := Lib.hid hB
        clear hB
        go_wp2_with fail
        go_loopw [9] (fun i wr => i = .int .i64 0 ∧ W = wr) (fun _ _ => 0)
        case atStart => exact ⟨rfl, rfl⟩
        case round =>
          obtain ⟨rfl, rfl⟩ := hrel
          go_wp2_with fail
          go_ret
          exact ⟨_, rfl, .nil (some ⟨g, 0, none⟩) c [] (fun h => by cases h) rfl, HB.out⟩
    | row b off len cap l u hl hcap hS hcell hk =>
      have hu : ∀ j, j < l.length → (u j).oneCell' = true := fun j hj => by
        obtain ⟨A, c, h, _⟩ := (hk j _ (List.getElem?_eq_getElem hj)).form
        rw [h]; rfl
      have cC := clone_calls l hlr b off len cap u w hl hcell hu
      have hlong : len ≤ 140737488355328 := by omega
      have CC := Lib.hid cC
      have HL := Lib.hid hl
      have HM := Lib.hid hm
      have HRM := Lib.hid hroom
      have HK : Hid (∀ j x, l[j]? = some x → Old w.heap.size w (u j) x.kids) := Lib.hid hk
      clear cC hl hcell hk hu hm hroom hlr
      go_enter Try.func66, Try.ntmps66
      go_wp2_with fail
      refine CC.out.mono ?_
      rintro e w1 ⟨g, c, rfl, hO, hB⟩
      have HO := Lib.hid hO
      have HB := Lib.hid hB
      have hgw : w.heap.size ≤ g := (hO.1.lt g rfl).1
      have hcapo : len ≤ c := by
        obtain ⟨A, c2, h, h2⟩ := hO.form
        simp only [Value.slice.injEq] at h
        have := HL.out
        omega
      clear hO hB CC
      go_wp2_with fail
      go_loopw [9] (fun i wr => ∃ (k : Nat) (val : Nat → Value), i = .int .i64 k ∧ k ≤ len ∧ OwnR wr w.heap.size (.slice (some ⟨g, 0, none⟩) len c) l val ∧ (∀ j x, l[j]? = some x → j < k → Items (fun b => w.heap.size ≤ b ∧ b < wr.heap.size ∧ b ≠ g) wr (val j) x.kids) ∧ (∀ j, k ≤ j → val j = u j) ∧ Below w.heap.size w wr)
        (fun i _ => len - (intOf i).toNat)
      case atStart => exact ⟨0, u, rfl, Nat.zero_le _, HO.out, fun _ _ _ h => absurd h (Nat.not_lt_zero _), fun _ _ => rfl, HB.out⟩
      case round =>
        obtain ⟨k, val, rfl, hk, h1, h2, h3, h4⟩ := hrel
        have H1 := Lib.hid h1
        have H2 := Lib.hid h2
        have H3 := Lib.hid h3
        have H4 := Lib.hid h4
        have hs := h4.size
        have hgs := (h1.1.lt g rfl).2
        clear h1 h2 h3 h4
        by_cases hlt : k < len
        · obtain ⟨x, hx⟩ : ∃ x, l[k]? = some x := ⟨_, List.getElem?_eq_getElem (by rw [HL.out]; exact hlt)⟩
          obtain ⟨⟨c0, c1, c2, c3⟩, hfz⟩ := H1.out.cells HL.out hx
          rw [H3.out k (Nat.le_refl _)] at c3
          have hkid := HK.out k x hx
          obtain ⟨A', cap', hue, hcap'⟩ := hkid.form
          rw [hue] at c3 hkid
          have f3 := hfz (k * 4 + 3)
          have cR := ih x.kids (by have := nodesL_kids hx; have := HM.out; omega) (roomyL_get hx HRM.out).1 (roomyL_get hx HRM.out).2 (.slice A' x.kids.length cap') wr (Items.more hs (Items.low H4.out hkid))
          have CR := Lib.hid cR
          have HX := Lib.hid hx
          clear hfz c0 c1 c2 hkid hue cR hx
          go_wp2_with fail
          refine CR.out.mono ?_
          rintro e w2 ⟨v2, rfl, hI2, hB2⟩
          have hO2 := H1.out.below hB2
          obtain ⟨⟨e0, e1, e2, e3⟩, hfz⟩ := hO2.cells HL.out HX.out
          have g3 := hfz (k * 4 + 3)
          obtain ⟨A2, cap2, rfl, _⟩ := hI2.form
          have hO3 := hO2.store HL.out k (.slice A2 x.kids.length cap2) rfl
          have hB3 := (H4.out.trans (hB2.mono hs)).setCell (p := ⟨g, k * 4 + 3, none⟩) hgw (.slice A2 x.kids.length cap2)
          have hold : ∀ j y, l[j]? = some y → j < k + 1 → Items (fun b => w.heap.size ≤ b ∧ b < (w2.setCell ⟨g, k * 4 + 3, none⟩ (.slice A2 x.kids.length cap2)).heap.size ∧ b ≠ g) (w2.setCell ⟨g, k * 4 + 3, none⟩ (.slice A2 x.kids.length cap2)) (if j = k then .slice A2 x.kids.length cap2 else val j) y.kids := by
            intro j y hy hj
            have hsz : (w2.setCell ⟨g, k * 4 + 3, none⟩ (.slice A2 x.kids.length cap2)).heap.size = w2.heap.size := by simp [World.setCell]
            have hs2 := hB2.size
            by_cases hjk : j = k
            · subst hjk
              rw [if_pos rfl]
              have : y = x := Option.some.inj (hy.symm.trans HX.out)
              subst this
              exact hI2.keep (fun b hb => Below.heap_setCell _ _ _ _ (by show b ≠ g; omega)) (fun b hb => ⟨by omega, by rw [hsz]; exact hb.2, by omega⟩)
            · rw [if_neg hjk]
              exact (H2.out j y hy (by omega)).keep (fun b hb => (Below.heap_setCell _ _ _ _ (by show b ≠ g; exact hb.2.2)).trans (hB2.block b hb.2.1)) (fun b hb => ⟨hb.1, by rw [hsz]; omega, hb.2.2⟩)
          have HO3 := Lib.hid hO3
          have HB3 := Lib.hid hB3
          have HOLD := Lib.hid hold
          clear hO2 e0 e1 e2 hfz hI2 hB2 hO3 hB3 hold c3 f3 CR
          go_wp2_with fail
          go_roundw
          case rel => exact ⟨k + 1, _, by go_num, by omega, HO3.out, HOLD.out, fun j hj => by rw [if_neg (by omega)]; exact H3.out j (by omega), HB3.out⟩
          case measure => simp [intOf]; omega
        · obtain rfl : k = len := by omega
          go_wp2_with fail
          go_ret
          refine ⟨_, rfl, H1.out.items (fun b hb => by simp only [Value.ownBlock, Option.some.injEq] at hb; omega) (fun j x hx => ?_), H4.out⟩
          have hj : j < l.length := (List.getElem?_eq_some_iff.1 hx).1
          exact (H2.out j x hx (by have := HL.out; omega)).mono (fun b hb => ⟨hb.1, hb.2.1⟩)

end Go.Proofs.Ytffehnojcajhiaa.Wire
