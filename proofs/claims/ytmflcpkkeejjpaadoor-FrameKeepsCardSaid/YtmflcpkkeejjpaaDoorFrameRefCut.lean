/-
  Contracts of Cut, the document's own answer, and of SameList.
-/
import Derived.Test.YtmflcpkkeejjpaaDoorFrameCut
import Derived.Test.YtmflcpkkeejjpaaDoorFrameRef
import Derived.Test.YtmflcpkkeejjpaaDoorByteRows
namespace Go.Proofs.YtmflcpkkeejjpaaDoor.Frame
open Go.RowKit Go.Shelf Go.Proofs.YtmflcpkkeejjpaaDoor.Law Go.Proofs.YtmflcpkkeejjpaaDoor.Crc

theorem fine_appended {W w1 : World} {base hi k : Nat} {v : Value} {xs : List Value} {tmp : Obj} (hrow : W.ownsRow hi 22 1 v k xs) (hgrow : (W.alloc tmp).grownBy w1 v.ownBlock) (y : Piece) (h : Fine base y W) : Fine base y w1 := by
  refine ⟨(h.1.alloc tmp).kept hgrow ?_, h.2⟩
  rcases (hrow.alloc tmp).2 with ⟨rfl, _⟩ | ⟨g, cap, cur, rfl, _, hgb, _⟩
  · cases y.1.ownBlock with
    | none => exact .inl rfl
    | some z => exact .inr (by simp [Value.ownBlock])
  · exact (h.1.alloc tmp).cells_of hgb (by decide)
theorem below_appended {W w1 w : World} {base k : Nat} {v : Value} {xs : List Value} {tmp : Obj} {e : TypeId} (hB : Below base w W) (hrow : W.ownsRow base e 1 v k xs) (hgrow : (W.alloc tmp).grownBy w1 v.ownBlock) (hb : base ≤ W.heap.size) : Below base w w1 :=
  (hB.alloc hb tmp).grown hgrow (by simp; omega) (fun j ej => (hrow.lt j ej).1)

set_option maxRecDepth 100000 in
set_option maxHeartbeats 4000000 in
theorem refcut_calls (sv : Value) (bs : List Nat) (hsmall : bs.length ≤ 16777216) (w : World) (hI : Bytes w.heap.size w sv bs) :
    Calls Tryd.prog 17 #[sv] w (CutSays w bs) := by
  obtain ⟨i0, hi, hz0, hz1, hz2⟩ := info_parts info_row
  have HI := Lib.hid hI
  clear hI
  go_enter Tryd.func17, Tryd.ntmps17
  go_wp2
  go_loopw [4, 5] (fun v i wr => ∃ (ys : List Piece) (k : Nat), i = .int .i64 k ∧ Told bs (bytesOf ys) k ∧ wr.ownsRow w.heap.size 22 1 v ys.length (ys.map (·.1)) ∧ (∀ x ∈ ys, Fine w.heap.size x wr) ∧ Below w.heap.size w wr) (fun _ i _ => bs.length - (intOf i).toNat)
  case atStart => exact ⟨[], 0, rfl, .none, World.ownsRow_nil _ _ _ _, (fun x hx => by cases hx), Below.refl _ _⟩
  case round =>
    obtain ⟨ys, k, rfl, hTo, hrow, hfine, hB⟩ := hrel
    obtain ⟨hle, hlen⟩ := hTo.le
    rw [bytesOf_length] at hlen
    have cN := refnext_at sv bs (by omega) k hle wr (HI.out.on hB)
    by_cases hd : Done bs k
    · have hr := readN_err (r := bs.drop k) (at0 := k) hd
      obtain ⟨E, hE⟩ : ∃ E, (nextN bs k).2.2 = E := ⟨_, rfl⟩
      have hnx : nextN bs k = ([], 0, E) := by
        rw [← hE]
        exact Prod.ext hr.1 (Prod.ext hr.2 rfl)
      rw [hnx] at cN
      have hE0 : E ≠ 0 := by rw [← hE]; exact hd
      have hEI : ((E : Int) == 0) = false := by rw [beq_eq_false_iff_ne]; omega
      have hEJ : ((E : Int) != 0) = true := by rw [bne_iff_ne]; omega
      have CN := Lib.hid cN
      have HTo := Lib.hid hTo
      have HD := Lib.hid hd
      clear cN hTo hd hr hE hnx hE0 hlen
      go_wp2_with fail
      refine CN.out.mono ?_
      rintro e w' ⟨v', rfl, -, hB'⟩
      have hrow' : w'.ownsRow w.heap.size 22 1 _ ys.length (ys.map (·.1)) := hrow.kept (grown_of_below hB') (by cases hh : (_ : Value).ownBlock <;> simp)
      have hfine' : ∀ x ∈ ys, Fine w.heap.size x w' := fun x hx => ⟨(hfine x hx).1.below hB', (hfine x hx).2⟩
      have hB2 := hB.trans (hB'.mono hB.size)
      clear hB' hrow hfine hB
      go_wp2
      go_ret2
      exact ⟨_, ys, k, rfl, ⟨HTo.out, HD.out⟩, hrow', hfine', hB2⟩
    · obtain ⟨p, to1, hnx⟩ : ∃ p to1, nextN bs k = (p, to1, 0) := by
        have h0 : (nextN bs k).2.2 = 0 := by
          rcases Nat.eq_zero_or_pos (nextN bs k).2.2 with h | h
          · exact h
          · exact absurd (by show (nextN bs k).2.2 ≠ 0; omega) hd
        exact ⟨_, _, Prod.ext rfl (Prod.ext rfl h0)⟩
      rw [hnx] at cN
      have hTo2 : Told bs (bytesOf ys ++ [p]) to1 := .more p to1 hTo hnx
      obtain ⟨hk12, hpl⟩ : k + 12 ≤ to1 ∧ p.length ≤ 65536 := by
        obtain ⟨h1, h2, h3, -, -⟩ := readN_ok (r := bs.drop k) (at0 := k) (by show (nextN bs k).2.2 = 0; rw [hnx])
        have h4 : nextN bs k = _ := h1
        rw [hnx] at h4
        simp only [Prod.mk.injEq] at h4
        obtain ⟨h5, h6, -⟩ := h4
        have h7 : p.length ≤ num4 (bs.drop k) := by rw [h5]; exact List.length_take_le _ _
        omega
      obtain ⟨hle2, hlen2⟩ := hTo2.le
      simp only [List.length_append, bytesOf_length, List.length_cons, List.length_nil] at hlen2
      have hlenN : ys.length ≤ 1398101 := by omega
      have CN := Lib.hid cN
      have HTo2 := Lib.hid hTo2
      clear cN hTo hTo2 hd hnx hlen hle
      go_wp2_with fail
      refine CN.out.mono ?_
      rintro e w' ⟨v', rfl, O', hB'⟩
      have hrow' := hrow.kept (grown_of_below hB') (by cases hh : (_ : Value).ownBlock <;> simp)
      have hfine' : ∀ x ∈ ys, Fine w.heap.size x w' := fun x hx => ⟨(hfine x hx).1.below hB', (hfine x hx).2⟩
      have hB2 := hB.trans (hB'.mono hB.size)
      have hnew : Fine w.heap.size (v', p) w' := ⟨O'.lower hB.size, hpl⟩
      obtain ⟨A2, c2, rfl⟩ := O'.bytes.form
      have hb2 := hB2.size
      obtain ⟨pl, hpl'⟩ : ∃ pl, p.length = pl := ⟨_, rfl⟩
      rw [hpl'] at hnew ⊢
      have HNEW := Lib.hid hnew
      clear hB' hrow hfine hB O' hpl' hnew hpl
      go_wp2_with (at_builtin; refine wpList_append_own_at _ rfl _ _ 36 rfl w.heap.size 22 i0 (.slice none 0 0) 1 24 Tryd.underlying36 hi hz0 hz1 hz2 rfl (by decide) _ _ _ rfl (hrow'.alloc _) ⟨w'.heap.size, 0, none⟩ 1 1 [.slice A2 pl c2] rfl rfl (cell_one_new _ _ _) (by simp [Value.oneCell']) (by simp only [maxLen]; omega) (by omega) (by simp; omega) ?_; intro v5 w5 hown' hgrow _ _)
      go_roundw
      case rel =>
        refine ⟨ys ++ [(.slice A2 pl c2, p)], to1, rfl, by rw [bytesOf_snoc]; exact HTo2.out, by simpa using hown', fun y hy => ?_, below_appended hB2 hrow' hgrow hb2⟩
        rcases List.mem_append.1 hy with h | h
        · exact fine_appended hrow' hgrow y (hfine' y h)
        · rw [List.mem_singleton.1 h]
          exact fine_appended hrow' hgrow _ HNEW.out
      case measure => simp [intOf]; omega

/-- The payloads, as rows of bytes that are read. -/
theorem rows_of {W : World} {base : Nat} {v : Value} {ys : List Piece} (h : W.ownsRow base 22 1 v ys.length (ys.map (·.1))) (hf : ∀ x ∈ ys, Fine base x W) : ByteRows W.heap.size W v (bytesOf ys) := by
  have hlt := h.lt
  have hcell := fun (g : Nat) (hg : v.ownBlock = some g) => h.cells hg
  rcases h.2 with ⟨rfl, h0⟩ | ⟨g, cap, cur, rfl, _, _, hn, _⟩
  · exact ⟨none, 0, by rw [bytesOf_length, h0], by rw [bytesOf_length, h0]; exact Nat.le_refl _, fun hp => by rw [bytesOf_length] at hp; omega⟩
  · refine ⟨_, cap, by rw [bytesOf_length], by rw [bytesOf_length]; exact hn, fun _ => ⟨g, 0, rfl, (hlt g rfl).2, fun j hj => ?_⟩⟩
    rw [bytesOf_length] at hj
    refine ⟨ys[j].1, ?_, ?_⟩
    · have := hcell g rfl j ys[j].1 (by simp [hj])
      rwa [Addr.add_lit] at this
    · have e : (bytesOf ys).getD j [] = ys[j].2 := by simp [bytesOf, List.getD, hj]
      rw [e]
      exact (hf _ (List.getElem_mem _)).1.bytes
theorem _root_.Go.Proofs.YtmflcpkkeejjpaaDoor.Law.ByteRows.below {n₀ : Nat} {A B : World} {sv : Value} {bss : List (List Nat)} (hI : ByteRows n₀ A sv bss) (h : Below n₀ A B) : ByteRows n₀ B sv bss := by
  obtain ⟨A', cap, e, hl, hc⟩ := hI
  refine ⟨A', cap, e, hl, fun hp => ?_⟩
  obtain ⟨b, off, e1, hb, hcs⟩ := hc hp
  refine ⟨b, off, e1, hb, fun j hj => ?_⟩
  obtain ⟨v, h1, h2⟩ := hcs j hj
  exact ⟨v, (h.cell (p := ⟨b, off + j, none⟩) hb).trans h1, h2.below h⟩
theorem _root_.Go.Proofs.YtmflcpkkeejjpaaDoor.Law.ByteRows.more {n₀ n₁ : Nat} {W : World} {sv : Value} {bss : List (List Nat)} (hI : ByteRows n₀ W sv bss) (hn : n₀ ≤ n₁) : ByteRows n₁ W sv bss := by
  obtain ⟨A', cap, e, hl, hc⟩ := hI
  refine ⟨A', cap, e, hl, fun hp => ?_⟩
  obtain ⟨b, off, e1, hb, hcs⟩ := hc hp
  exact ⟨b, off, e1, by omega, fun j hj => by obtain ⟨v, h1, h2⟩ := hcs j hj; exact ⟨v, h1, h2.more hn⟩⟩
theorem _root_.Go.Proofs.YtmflcpkkeejjpaaDoor.Law.ByteRows.on {A B : World} {sv : Value} {bss : List (List Nat)} (hI : ByteRows A.heap.size A sv bss) (h : Below A.heap.size A B) : ByteRows B.heap.size B sv bss := (hI.below h).more h.size

end Go.Proofs.YtmflcpkkeejjpaaDoor.Frame
