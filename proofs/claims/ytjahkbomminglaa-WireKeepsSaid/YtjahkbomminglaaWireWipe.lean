/-
  Items that are written over: only cells of their own blocks turn, and each keeps its kind.
-/
import Derived.Test.YtjahkbomminglaaWireGrowU
namespace Go.Proofs.Ytjahkbomminglaa.Wire
open Go Go.RowKit Go.Proofs.Ytjahkbomminglaa.Law

/-- Is the cell as it was, or one of the same kind? -/
def Like (c c' : Option Value) : Prop := c' = c ∨ (∃ a b, c = some (.int .i64 a) ∧ c' = some (.int .i64 b)) ∨ (∃ a b, c = some (.string a) ∧ c' = some (.string b)) ∨ (∃ A l k, c = some (.slice A l k) ∧ c' = some (.slice none 0 0))

/-- The world W with some items of the blocks in S written over. -/
def Wiped (S : Nat → Prop) (W0 W : World) : Prop :=
  W.os = W0.os ∧ W.tape = W0.tape ∧ W.output = W0.output ∧ W.heap.size = W0.heap.size ∧ (∀ b, ¬ S b → W.heap[b]? = W0.heap[b]?) ∧ (∀ b i, Like (W0.cell? ⟨b, i, none⟩) (W.cell? ⟨b, i, none⟩)) ∧ (∀ b i, W.frozen? ⟨b, i, none⟩ = W0.frozen? ⟨b, i, none⟩)

theorem Wiped.refl (S : Nat → Prop) (W : World) : Wiped S W W := ⟨rfl, rfl, rfl, rfl, fun _ _ => rfl, fun _ _ => .inl rfl, fun _ _ => rfl⟩
theorem Wiped.draw {S : Nat → Prop} {W0 W : World} (h : Wiped S W0 W) (d : Nat) : Wiped S W0 (W.drewN d) := h

theorem Wiped.set {S : Nat → Prop} {W0 W : World} (h : Wiped S W0 W) {b i : Nat} (hS : S b) {c v : Value} (hc : W.cell? ⟨b, i, none⟩ = some c) (hl : Like (W0.cell? ⟨b, i, none⟩) (some v)) : Wiped S W0 (W.setCell ⟨b, i, none⟩ v) := by
  obtain ⟨h1, h2, h3, h4, h5, h6, h7⟩ := h
  refine ⟨h1, h2, h3, by simpa [World.setCell] using h4, fun k hk => ?_, fun b' i' => ?_, fun b' i' => by rw [World.frozen?_setCell]; exact h7 b' i'⟩
  · rw [Below.heap_setCell _ _ _ _ (fun e => hk (by have e' : k = b := e; rw [e']; exact hS))]; exact h5 k hk
  · by_cases he : b = b' ∧ i = i'
    · obtain ⟨rfl, rfl⟩ := he
      rw [World.cell?_setCell_same _ _ _ hc]; exact hl
    · rw [World.cell?_setCell_other _ _ _ _ (fun e => he (by simpa using e))]; exact h6 b' i'

theorem Like.int {c c' : Option Value} {a : Int} (h : Like c c') (hc : c = some (.int .i64 a)) : ∃ b, c' = some (.int .i64 b) := by
  subst hc
  rcases h with h | ⟨_, b, _, h⟩ | ⟨_, _, h, _⟩ | ⟨_, _, _, h, _⟩
  · exact ⟨a, h⟩
  · exact ⟨b, h⟩
  · cases h
  · cases h
theorem Like.text {c c' : Option Value} {a : ByteArray} (h : Like c c') (hc : c = some (.string a)) : ∃ b, c' = some (.string b) := by
  subst hc
  rcases h with h | ⟨_, _, h, _⟩ | ⟨_, b, _, h⟩ | ⟨_, _, _, h, _⟩
  · exact ⟨a, h⟩
  · cases h
  · exact ⟨b, h⟩
  · cases h
theorem Like.list {c c' : Option Value} {A : Option Addr} {l k : Nat} (h : Like c c') (hc : c = some (.slice A l k)) : c' = some (.slice A l k) ∨ c' = some (.slice none 0 0) := by
  subst hc
  rcases h with h | ⟨_, _, h, _⟩ | ⟨_, _, h, _⟩ | ⟨_, _, _, _, h⟩
  · exact .inl h
  · cases h
  · cases h
  · exact .inr h

set_option maxRecDepth 100000 in
set_option maxHeartbeats 4000000 in
theorem wipe_calls (S : Nat → Prop) (W0 : World) (hU : ∀ b, S b → Unf W0 b) : ∀ (m : Nat) (l : List Item), nodesL l < m → l.length ≤ 9223372036854775807 → sizedL l → ∀ (sv : Value) (W : World), Items S W0 sv l → Wiped S W0 W →
    Calls Try.prog 22 #[sv] W fun e W' => e = .returned (.tuple #[]) ∧ Wiped S W0 W' := by
  intro m
  induction m with
  | zero => exact fun _ h => absurd h (Nat.not_lt_zero _)
  | succ m ih =>
    intro l hm hlong hsz sv W hI hW
    obtain ⟨A, cap, rfl, hcap⟩ := hI.form
    obtain ⟨len, hlen⟩ : ∃ len, l.length = len := ⟨_, rfl⟩
    rw [hlen] at hI hcap hlong ⊢
    have HI := Lib.hid hI
    have HL := Lib.hid hlen
    have HM := Lib.hid hm
    have HS := Lib.hid hsz
    have HW := Lib.hid hW
    have HU := Lib.hid hU
    clear hI hlen hm hsz hW hU
    go_enter Try.func22, Try.ntmps22
    go_wp2_with fail
    go_loopw [2] (fun i wr => ∃ k : Nat, i = .int .i64 k ∧ k ≤ len ∧ Wiped S W0 wr) (fun i _ => len - (intOf i).toNat)
    case atStart => exact ⟨0, rfl, Nat.zero_le _, HW.out⟩
    case round =>
      obtain ⟨k, rfl, hk, hW⟩ := hrel
      have HWr := Lib.hid hW
      clear hW
      by_cases hlt : k < len
      · obtain ⟨x, hx⟩ : ∃ x, l[k]? = some x := ⟨_, List.getElem?_eq_getElem (by rw [HL.out]; exact hlt)⟩
        obtain ⟨bk, off, rfl, hbk, hcells⟩ := HI.out.at (by omega)
        obtain ⟨u, ⟨c0, c1, c2, c3⟩, hkid⟩ := hcells k x hx
        obtain ⟨A', cap', rfl, hcap'⟩ := hkid.form
        have hone : ∃ (Ak : Option Addr) (lk ck : Nat) (y : List Item), wr.cell? ⟨bk, off + k * 4 + 3, none⟩ = some (.slice Ak lk ck) ∧ Items S W0 (.slice Ak lk ck) y ∧ nodesL y < m ∧ y.length ≤ 9223372036854775807 ∧ sizedL y := by
          rcases (HWr.out.2.2.2.2.2.1 bk (off + k * 4 + 3)).list c3 with h | h
          · exact ⟨A', x.kids.length, cap', x.kids, h, hkid, by have := nodesL_kids hx; have := HM.out; omega, (sized_of (sizedL_get hx HS.out)).2.2.2.2.2, sized_kids (sizedL_get hx HS.out)⟩
          · refine ⟨none, 0, 0, [], h, .nil none 0 _ (fun _ => rfl) rfl, ?_, by simp, trivial⟩
            have := nodesL_kids hx; have := HM.out; simp only [nodesL]; omega
        obtain ⟨Ak, lk, ck, y, d3, hy, hyn, hyl, hys⟩ := hone
        have cR := ih y hyn hyl hys (.slice Ak lk ck) wr hy HWr.out
        have CR := Lib.hid cR
        have HC0 := Lib.hid c0
        have HC1 := Lib.hid c1
        have HC2 := Lib.hid c2
        have HC3 := Lib.hid c3
        clear hcells hkid hx cR hy c0 c1 c2 c3
        go_wp2_with fail
        refine CR.out.mono ?_
        clear CR
        rintro e W2 ⟨rfl, hW2⟩
        have hz := fun i => (hW2.2.2.2.2.2.2 bk i).trans (HU.out bk hbk i)
        obtain ⟨e0, g0⟩ := (hW2.2.2.2.2.2.1 bk (off + k * 4)).int HC0.out
        obtain ⟨e1, g1⟩ := (hW2.2.2.2.2.2.1 bk (off + k * 4 + 1)).int HC1.out
        obtain ⟨e2, g2⟩ := (hW2.2.2.2.2.2.1 bk (off + k * 4 + 2)).text HC2.out
        have g3 : ∃ c, W2.cell? ⟨bk, off + k * 4 + 3, none⟩ = some c := by
          rcases (hW2.2.2.2.2.2.1 bk (off + k * 4 + 3)).list HC3.out with h | h
          · exact ⟨_, h⟩
          · exact ⟨_, h⟩
        obtain ⟨e3, g3⟩ := g3
        have z0 := hz (off + k * 4)
        have z1 := hz (off + k * 4 + 1)
        have z2 := hz (off + k * 4 + 2)
        have z3 := hz (off + k * 4 + 3)
        have hfin : Wiped S W0 ((((W2.setCell ⟨bk, off + k * 4, none⟩ (.int .i64 (-1))).setCell ⟨bk, off + k * 4 + 1, none⟩ (.int .i64 0)).setCell ⟨bk, off + k * 4 + 2, none⟩ (.string ⟨#[]⟩)).setCell ⟨bk, off + k * 4 + 3, none⟩ (.slice none 0 0)) := by
          have k0 := hW2.set hbk g0 (.inr (.inl ⟨_, -1, HC0.out, rfl⟩))
          have k1 := k0.set hbk (i := off + k * 4 + 1) (c := .int .i64 e1) (by rw [World.cell?_setCell_other _ _ _ _ (by simp)]; exact g1) (.inr (.inl ⟨_, 0, HC1.out, rfl⟩))
          have k2 := k1.set hbk (i := off + k * 4 + 2) (c := .string e2) (by rw [World.cell?_setCell_other _ _ _ _ (by simp), World.cell?_setCell_other _ _ _ _ (by simp)]; exact g2) (.inr (.inr (.inl ⟨_, ⟨#[]⟩, HC2.out, rfl⟩)))
          exact k2.set hbk (i := off + k * 4 + 3) (c := e3) (by rw [World.cell?_setCell_other _ _ _ _ (by simp), World.cell?_setCell_other _ _ _ _ (by simp), World.cell?_setCell_other _ _ _ _ (by simp)]; exact g3) (.inr (.inr (.inr ⟨_, _, _, HC3.out, rfl⟩)))
        have HFIN := Lib.hid hfin
        clear hW2 hz hfin
        go_wp2_with fail
        go_roundw
        case rel => exact ⟨k + 1, by go_num, by omega, HFIN.out⟩
        case measure => simp [intOf]; omega
      · obtain rfl : k = len := by omega
        go_wp2_with fail
        go_end0
        exact ⟨rfl, HWr.out⟩

end Go.Proofs.Ytjahkbomminglaa.Wire
