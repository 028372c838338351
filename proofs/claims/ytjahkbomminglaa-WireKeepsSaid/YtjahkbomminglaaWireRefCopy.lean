/-
  The document's own copy of items.
-/
import Derived.Test.YtjahkbomminglaaWireItemList
import Derived.Test.YtjahkbomminglaaWireCopied
namespace Go.Proofs.Ytjahkbomminglaa.Wire
open Go Go.RowKit Go.Proofs.Ytjahkbomminglaa.Law

/-- What Copy leaves. -/
def RefCopied (w : World) (l : List Item) (e : Ending) (W : World) : Prop :=
  ∃ v, e = .returned v ∧ Items (fun b => w.heap.size ≤ b ∧ b < W.heap.size) W v l ∧ Below w.heap.size w W

/-- An item more. -/
theorem copy_more {w wr W2 : World} {out : Value} {done : List Item} {x : Item} {u2 : Value} (hG : Grow w.heap.size wr.heap.size wr out done) (hBw : Below w.heap.size w wr) (hB2 : Below (wr.heap.size + 1) (wr.alloc (.cells #[.int .i64 x.kind, .int .i64 x.n, .string x.s, u2] 40)) W2)
    (A2 : Option Addr) (l2 c2 : Nat) (hu : Items (fun b => wr.heap.size + 1 ≤ b ∧ b < W2.heap.size) W2 (.slice A2 l2 c2) x.kids) (ty : TypeId) (hroom : (done.length + 1) * 56 ≤ 140737488355328) :
    ∃ v' W', (Builtin.append_ #[22, 22] ty #[out, .slice (some ⟨W2.heap.size, 0, none⟩) 1 1]).run Try.prog ((W2.setCell ⟨wr.heap.size, 3, none⟩ (.slice A2 l2 c2)).alloc (.cells #[.int .i64 x.kind, .int .i64 x.n, .string x.s, .slice A2 l2 c2] 40)) = .ok v' W' ∧
      (∃ A l c, v' = .slice A l c) ∧ Grow w.heap.size W'.heap.size W' v' (done ++ [x]) ∧ Below w.heap.size w W' := by
  have hws := hBw.size
  have hs2 : wr.heap.size + 1 ≤ W2.heap.size := by have := hB2.size; simpa using this
  have hsz : (W2.setCell ⟨wr.heap.size, 3, none⟩ (.slice A2 l2 c2)).heap.size = W2.heap.size := by simp [World.setCell]
  have hkeep : ∀ b, b < wr.heap.size → (W2.setCell ⟨wr.heap.size, 3, none⟩ (.slice A2 l2 c2)).heap[b]? = wr.heap[b]? := fun b hb => by
    rw [Below.heap_setCell _ _ _ _ (by show b ≠ wr.heap.size; omega)]
    exact (hB2.block b (by omega)).trans (Below.heap_alloc _ _ _ hb)
  have hG3 : Grow w.heap.size wr.heap.size (W2.setCell ⟨wr.heap.size, 3, none⟩ (.slice A2 l2 c2)) out done := hG.keep (fun b _ hb => hkeep b hb) (Nat.le_refl _) (by rw [hsz]; omega)
  have hgo := hG.own
  obtain ⟨v', W', hrun, hG', hgr, _⟩ := hG3.append (by omega) x (.slice A2 l2 c2) (hu.keep (fun b hb => Below.heap_setCell _ _ _ _ (by show b ≠ wr.heap.size; omega)) (fun b hb => ⟨by omega, by rw [hsz]; exact hb.2, fun e => by have := (hgo b e).2; omega⟩)) ty hroom
  rw [hsz] at hrun
  refine ⟨v', W', hrun, (by obtain ⟨A, c, h, _⟩ := hG'.form; exact ⟨A, _, c, h⟩), hG', ?_⟩
  have h1 : Below w.heap.size w (wr.alloc (.cells #[.int .i64 x.kind, .int .i64 x.n, .string x.s, u2] 40)) := hBw.alloc (by omega) _
  have h2 := h1.trans (hB2.mono (by omega))
  have h3 := h2.setCell (p := ⟨wr.heap.size, 3, none⟩) hws (.slice A2 l2 c2)
  exact h3.grown hgr (by rw [hsz]; omega) (fun k hk => (hgo k hk).1)

set_option maxRecDepth 100000 in
set_option maxHeartbeats 4000000 in
theorem refcopy_calls : ∀ (m : Nat) (l : List Item), nodesL l < m → l.length * 56 ≤ 140737488355328 → roomyL l → ∀ (sv : Value) (w : World), Old w.heap.size w sv l →
    Calls Try.prog 19 #[sv] w (RefCopied w l) := by
  intro m
  induction m with
  | zero => exact fun _ h => absurd h (Nat.not_lt_zero _)
  | succ m ih =>
    intro l hm hlr hroom sv w hI
    obtain ⟨A, cap, rfl, hcap⟩ := hI.form
    obtain ⟨len, hlen⟩ : ∃ len, l.length = len := ⟨_, rfl⟩
    rw [hlen] at hI hcap ⊢
    have hlong : len * 56 ≤ 140737488355328 := by omega
    have HI := Lib.hid hI
    have HL := Lib.hid hlen
    have HM := Lib.hid hm
    have HRM := Lib.hid hroom
    clear hI hlen hm hroom hlr
    go_enter Try.func19, Try.ntmps19
    go_wp2_with fail
    go_loopw [3, 4] (fun u i wr => ∃ k : Nat, i = .int .i64 k ∧ k ≤ len ∧ (∃ A l c, u = .slice A l c) ∧ Grow w.heap.size wr.heap.size wr u (l.take k) ∧ Below w.heap.size w wr) (fun _ i _ => len - (intOf i).toNat)
    case atStart => exact ⟨0, rfl, Nat.zero_le _, ⟨_, _, _, rfl⟩, by rw [List.take_zero]; exact Grow.nil _ _ _ (Nat.le_refl _), Below.refl _ _⟩
    case round =>
      obtain ⟨k, rfl, hk, ⟨Au, lu, cu, rfl⟩, hG, hB⟩ := hrel
      have hs := hB.size
      have HG := Lib.hid hG
      have HB := Lib.hid hB
      clear hG hB
      by_cases hlt : k < len
      · obtain ⟨x, hx⟩ : ∃ x, l[k]? = some x := ⟨_, List.getElem?_eq_getElem (by rw [HL.out]; exact hlt)⟩
        have hI2 := Items.low HB.out HI.out
        obtain ⟨bk, off, rfl, hbk, hcells⟩ := hI2.at (by omega)
        obtain ⟨u, ⟨c0, c1, c2, c3⟩, hkid⟩ := hcells k x hx
        obtain ⟨A', cap', rfl, hcap'⟩ := hkid.form
        have htk : l.take (k + 1) = l.take k ++ [x] := by rw [List.take_add_one, hx]; rfl
        have htl : (l.take k).length = k := by rw [List.length_take, HL.out]; omega
        obtain ⟨kl, hkl⟩ : ∃ kl, x.kids.length = kl := ⟨_, rfl⟩
        have hry := roomyL_get hx HRM.out
        have cR := ih x.kids (by have := nodesL_kids hx; have := HM.out; omega) hry.1 hry.2 (.slice A' x.kids.length cap') (wr.alloc (.cells #[.int .i64 x.kind, .int .i64 x.n, .string x.s, .slice A' x.kids.length cap'] 40)) (Items.more (by simp; omega) (Items.low ((Below.refl w.heap.size wr).alloc hs _) hkid))
        rw [hkl] at cR c3
        have hbox := box4 (heap_alloc_new wr (.cells #[.int .i64 x.kind, .int .i64 x.n, .string x.s, .slice A' kl cap'] 40))
        have HBX := Lib.hid (heap_alloc_new wr (.cells #[.int .i64 x.kind, .int .i64 x.n, .string x.s, .slice A' kl cap'] 40))
        have HTK := Lib.hid htk
        have HTL := Lib.hid htl
        have CR := Lib.hid cR
        clear hI2 hcells hkid htk htl cR hx hkl hry hbox
        go_wp2_with fail
        refine CR.out.mono ?_
        clear CR
        rintro e W2 ⟨v2, rfl, hIt2, hB2⟩
        obtain ⟨A2, cap2, rfl, _⟩ := hIt2.form
        obtain ⟨l2, hl2⟩ : ∃ l2, x.kids.length = l2 := ⟨_, rfl⟩
        rw [hl2] at hIt2 ⊢
        have hsz1 : (wr.alloc (.cells #[.int .i64 x.kind, .int .i64 x.n, .string x.s, .slice A' kl cap'] 40)).heap.size = wr.heap.size + 1 := by simp
        rw [hsz1] at hIt2 hB2
        have hbx2 := (hB2.block wr.heap.size (Nat.lt_succ_self _)).trans HBX.out
        obtain ⟨q0, q1, q2, q3, p0, p1, p2, p3⟩ := box4 hbx2
        obtain ⟨v', W', hrun, ⟨Av, lv, cv, rfl⟩, hG', hB'⟩ := copy_more HG.out HB.out hB2 A2 l2 cap2 hIt2 22 (by rw [HTL.out]; omega)
        rw [← HTK.out] at hG'
        have HRUN := Lib.hid hrun
        have HG' := Lib.hid hG'
        have HB' := Lib.hid hB'
        clear hrun hG' hB' hIt2 hB2 hbx2 hl2 HG HB HBX hsz1
        go_wp2_with (refine wpList_append_ran (o := ⟨some 23, _, _, _, _, _⟩) rfl _ _ _ rfl rfl rfl HRUN.out ?_)
        go_roundw
        case rel => exact ⟨k + 1, by go_num, by omega, ⟨_, _, _, rfl⟩, HG'.out, HB'.out⟩
        case measure => simp [intOf]; omega
      · obtain rfl : k = len := by omega
        have htk : l.take k = l := List.take_of_length_le (by rw [HL.out]; exact Nat.le_refl _)
        have hfin := HG.out.items
        rw [htk] at hfin
        have HFIN := Lib.hid hfin
        clear htk hfin
        go_wp2_with fail
        go_ret
        exact ⟨_, rfl, HFIN.out, HB.out⟩

end Go.Proofs.Ytjahkbomminglaa.Wire
