/-
  The document's own Decode.
-/
import Derived.Test.YtffehnojcajhiaaWireRefItem
import Derived.Test.YtffehnojcajhiaaWireBackMath
import Derived.BigQuiet
import Derived.Deep.QuietTactic
namespace Go.Proofs.Ytffehnojcajhiaa.Wire
open Go Go.RowKit Go.Proofs.Ytffehnojcajhiaa.Law

/-- What Decode answers. -/
def Decoded (base : Nat) (w : World) (R : List Item × Nat) (e : Ending) (W : World) : Prop :=
  ∃ u, e = .returned (.tuple #[u, .int .i64 (R.2 : Nat)]) ∧ Below base w W ∧ Items (fun b => base ≤ b ∧ b < W.heap.size) W u R.1

/-- What lies ahead of an item of the message. -/
def TS (w : World) (base : Nat) (RT : Except Nat (List Item)) (u : Value) (W : World) : Prop :=
  ∃ f c B bs acc, rdTop f c bs acc = RT ∧ 4097 ≤ f + c ∧ c ≤ 4096 ∧ acc.length ≤ c ∧ bs.length ≤ 65536 ∧ Rd W base B c 0 ∧ Bytes base W B bs ∧ Below base w W ∧ Grow (base + 1) W.heap.size W u acc

theorem top_more {w W W2 : World} {base f c c' : Nat} {B' u u' : Value} {bs' : List Nat} {acc : List Item} {x : Item} {RT : Except Nat (List Item)} (hsz : base < W.heap.size)
    (hR : rdTop f c' bs' (acc ++ [x]) = RT) (hf : 4097 ≤ f + c') (hc : c < c') (hc' : c' ≤ 4096) (hacc : acc.length ≤ c) (hbs : bs'.length ≤ 65536) (hB : Below base w W) (hGr : Grow (base + 1) W.heap.size W u acc)
    (hG2 : W.grownBy W2 (some base)) (hRd : Rd W2 base B' c' 0) (hBy : Bytes base W2 B' bs') (hu : Items (fun b => W.heap.size ≤ b ∧ b < W2.heap.size) W2 u' x.kids) (ty : TypeId) (o : Obj) :
    ∃ v' W', (Builtin.append_ #[51, 51] ty #[u, .slice (some ⟨W2.heap.size + 1, 0, none⟩) 1 1]).run Try.prog ((W2.alloc o).alloc (.cells #[.int .i64 x.kind, .int .i64 x.n, .string x.s, u'] 71)) = .ok v' W' ∧
      (∃ A l cap, v' = .slice A l cap) ∧ TS w base RT v' W' ∧ W'.cell? ⟨base, 1, none⟩ = some (.int .i64 (c' : Nat)) := by
  have hW2 := hG2.size
  have hGr2 : Grow (base + 1) W.heap.size (W2.alloc o) u acc := hGr.keep (fun b h1 h2 => (Below.heap_alloc _ _ _ (by omega)).trans (hG2.block b h2 (by simp; omega))) (Nat.le_refl _) (by simp; omega)
  have hgo := hGr.own
  obtain ⟨v', W', hrun, hGr', hG', hor⟩ := hGr2.append (by omega) x u' (hu.keep (fun b hb => Below.heap_alloc _ _ _ hb.2) (fun b hb => ⟨by omega, by simp; omega, fun e => by have := (hgo b e).2; omega⟩)) ty (by omega)
  have hsz2 : W2.heap.size + 1 ≤ W'.heap.size := by have := hG'.size; simpa using this
  have hkeep : ∀ j, j < base + 1 → W'.heap[j]? = W2.heap[j]? := fun j hj => (hG'.block j (by simp; omega) (fun e => by have := (hgo j e.symm).1; omega)).trans (Below.heap_alloc _ _ _ (by omega))
  have hRd' : Rd W' base B' c' 0 := (hkeep base (by omega)).trans hRd
  have b1 : Below base W W2 := (Below.refl _ _).grown hG2 (by omega) (fun k hk => by cases hk; omega)
  have b2 : Below base W2 (W2.alloc o) := (Below.refl _ _).alloc (by omega) _
  have b3 : Below base W2 W' := b2.grown hG' (by simp; omega) (fun k hk => by have := (hgo k hk).1; omega)
  refine ⟨v', W', by simpa using hrun, (by obtain ⟨A, cap, h, _⟩ := hGr'.form; exact ⟨A, _, cap, h⟩), ⟨f, c', B', bs', acc ++ [x], hR, hf, hc', by simp; omega, hbs, hRd', hBy.below b3, hB.trans (b1.trans b3), hGr'⟩, hRd'.cells.2.1⟩

theorem below_drewN2 {B : Nat} {a w : World} (h : Below B a w) (n : Nat) : Below B a (w.drewN n) := ⟨h.os, h.tape, h.output, h.size, h.block⟩

set_option maxRecDepth 100000 in
set_option maxHeartbeats 8000000 in
theorem refdecode_calls (bs : List Nat) (hlong : bs.length ≤ 140737488355000) (sv : Value) (w : World) (hI : Bytes w.heap.size w sv bs) :
    Calls Try.prog 26 #[sv] w (Decoded w.heap.size w (decR bs)) := by
  obtain ⟨R, hRR⟩ : ∃ R, decR bs = R := ⟨_, rfl⟩
  obtain ⟨RT, hRT⟩ : ∃ RT, rdTop 4097 0 bs [] = RT := ⟨_, rfl⟩
  rw [hRR]
  obtain ⟨A, cap, rfl⟩ := hI.form
  obtain ⟨len, hlen⟩ : ∃ len, bs.length = len := ⟨_, rfl⟩
  rw [hlen] at hI hlong ⊢
  obtain ⟨base, hbase⟩ : ∃ b, w.heap.size = b := ⟨_, rfl⟩
  rw [hbase] at hI ⊢
  have HI := Lib.hid hI
  have HRR := Lib.hid hRR
  have HRT := Lib.hid hRT
  have HL := Lib.hid hlen
  have HBS := Lib.hid hbase
  clear hI hRR hRT hlen
  by_cases hbig : 65536 < len
  · have hR : R = ([], 2) := by rw [← HRR.out, decR, decN, if_pos (by rw [HL.out]; exact hbig)]; rfl
    have HR := Lib.hid hR
    have hbI : 65536 < (len : Int) := by omega
    clear hR hbase
    go_enter Try.func26, Try.ntmps26
    go_wp2_with fail
    go_ret2
    rw [HR.out]
    exact ⟨.slice none 0 0, rfl, Below.refl _ _, .nil none 0 _ (fun _ => rfl) rfl⟩
  · have hR : R = decOf RT := by rw [← HRR.out, decR, decN, if_neg (by rw [HL.out]; exact hbig), HRT.out]
    have HR := Lib.hid hR
    have hbI : (len : Int) ≤ 65536 := by omega
    have hstart : TS w base RT (.slice none 0 0) (w.alloc (.cells #[.slice A len cap, .int .i64 0, .int .i64 0] 92)) := by
      refine ⟨4097, 0, .slice A len cap, bs, [], HRT.out, by omega, by omega, by simp, by rw [HL.out]; omega, ?_, ?_, ?_, ?_⟩
      · have := heap_alloc_new w (.cells #[.slice A len cap, .int .i64 0, .int .i64 0] 92)
        rw [hbase] at this
        exact this
      · exact HI.out.below ((Below.refl _ _).alloc (by omega) _)
      · exact (Below.refl _ _).alloc (by omega) _
      · exact Grow.nil _ _ _ (Nat.le_refl _)
    have HST := Lib.hid hstart
    have hbs2 : base = w.heap.size := hbase.symm
    clear hR hbase hstart
    have HBS2 := Lib.hid hbs2
    clear hbs2
    go_enter Try.func26, Try.ntmps26
    go_wp2_with fail
    trace "HEAD"
    rw [HBS.out]
    go_loopw [5] (fun u wr => (∃ A l cap, u = .slice A l cap) ∧ TS w base RT u wr) (fun _ wr => 4096 - (intOf ((wr.cell? ⟨base, 1, none⟩).getD undef)).toNat)
    case atStart => exact ⟨⟨_, _, _, rfl⟩, HST.out⟩
    case round =>
      obtain ⟨⟨Au, lu, cu, rfl⟩, hTS⟩ := hrel
      obtain ⟨f, c, B, bs1, acc, h1, h2, h3, h4, h5, h6, h7, h8, h9⟩ := hTS
      obtain ⟨f, rfl⟩ : ∃ f', f = f' + 1 := ⟨f - 1, by omega⟩
      have hsz := lt_of_some h6
      obtain ⟨A1, cap1, rfl⟩ := h7.form
      obtain ⟨r0, r1, r2, z0, z1, z2⟩ := h6.cells
      by_cases hnil : bs1 = []
      · subst hnil
        rw [rdTop, if_pos rfl] at h1
        have hE : R = (acc, 0) := by rw [HR.out, ← h1]; rfl
        have HE := Lib.hid hE
        have H8 := Lib.hid h8
        have H9 := Lib.hid h9
        clear h1 h2 h3 h4 h5 h6 h7 h8 h9 hE
        simp only [List.length_nil] at r0
        go_wp2_with fail
        go_ret2
        rw [HE.out]
        exact ⟨_, rfl, H8.out, H9.out.items.mono (fun b hb => ⟨by omega, hb.2⟩)⟩
      · rw [rdTop, if_neg hnil] at h1
        obtain ⟨l1, hl1⟩ : ∃ l1, bs1.length = l1 := ⟨_, rfl⟩
        have hpos : 0 < l1 := by
          rw [← hl1]; exact List.length_pos_iff.2 hnil
        have cI := refitem_calls 8 1 base base c _ bs1 wr rfl h5 h3 h6 h7 (Nat.le_refl _)
        obtain ⟨RI, hRI⟩ : ∃ RI, rdI 8 c bs1 = RI := ⟨_, rfl⟩
        rw [hRI] at cI h1
        rw [show ((1 : Nat) : Int) = 1 from rfl] at cI
        rw [hl1] at r0
        have hposI : 0 < (l1 : Int) := by omega
        have HCI := Lib.hid cI
        have H1 := Lib.hid h1
        have HRI := Lib.hid hRI
        have H2 := Lib.hid h2
        have H3 := Lib.hid h3
        have H4 := Lib.hid h4
        have H5 := Lib.hid h5
        have H8 := Lib.hid h8
        have H9 := Lib.hid h9
        have HC1 := Lib.hid r1
        clear cI h1 hRI h2 h3 h4 h5 h6 h7 h8 h9 hl1 hnil r1
        go_wp2_with fail
        refine HCI.out.mono ?_
        clear HCI
        rintro e w2 hN
        cases RI with
        | error k' =>
          obtain ⟨B', c', rfl, hG2, hRd2⟩ := hN
          have hE : R = ([], k') := by rw [HR.out, ← H1.out]; rfl
          have hk0 := rdI_err _ _ _ _ HRI.out
          have hkI2 : ¬ (k' : Int) = 0 := by omega
          have hrd : ∀ o, Rd (w2.alloc o) base B' c' k' := fun o => hRd2.below ((Below.refl _ _).alloc (Nat.le_refl _) _)
          have rr := fun o => (hrd o).cells.2.2.1
          have hsz2 := hG2.size
          have b1 : Below base wr w2 := (Below.refl _ _).grown hG2 (by omega) (fun k hk => by cases hk; omega)
          have b2 : ∀ o, Below base w (w2.alloc o) := fun o => (H8.out.trans b1).alloc (by omega) o
          have HB2 := Lib.hid b2
          have HE := Lib.hid hE
          clear hrd hG2 hRd2 H1 HRI H8 H9 hE b1 b2
          dsimp only [zeroItem]
          go_wp2_with fail
          go_quiet (fail)
          go_wp2_with fail
          go_ret2
          rw [HE.out]
          exact ⟨.slice none 0 0, rfl, below_drewN2 (HB2.out _) _, .nil none 0 _ (fun _ => rfl) rfl⟩
        | ok q =>
          obtain ⟨x, c', bs'⟩ := q
          obtain ⟨u', B', rfl, hG2, hRd2, hBy2, hIt2⟩ := hN
          obtain ⟨Ax, cx, rfl, _⟩ := hIt2.form
          obtain ⟨lx, hlx⟩ : ∃ lx, x.kids.length = lx := ⟨_, rfl⟩
          rw [hlx] at hIt2 ⊢
          have hcnt := rdI_count _ _ _ _ _ _ HRI.out
          have hsz2 := hG2.size
          obtain ⟨v', W', hrun, ⟨Av, lv, cv, rfl⟩, hTS', hcl⟩ := top_more (by omega) H1.out (by have := H2.out; omega) hcnt.1 hcnt.2.1 H4.out (Nat.le_trans hcnt.2.2 H5.out) H8.out H9.out hG2 hRd2 hBy2 hIt2 51 (.cells #[.int .i64 x.kind, .int .i64 x.n, .string x.s, .slice Ax lx cx] 71)
          have hrd : ∀ o, Rd (w2.alloc o) base B' c' 0 := fun o => hRd2.below ((Below.refl _ _).alloc (Nat.le_refl _) _)
          have rr := fun o => (hrd o).cells.2.2.1
          have HRUN := Lib.hid hrun
          have HTS := Lib.hid hTS'
          have HCL := Lib.hid hcl
          clear hrd hG2 hRd2 hBy2 hIt2 H1 HRI H8 H9 hrun hTS' hlx hcl
          dsimp only [aggOf]
          go_wp2_with (refine wpList_append_ran (o := ⟨some 33, _, _, _, _, _⟩) rfl _ _ _ rfl rfl rfl HRUN.out ?_)
          trace "APP"
          go_roundw
          case rel => exact ⟨⟨_, _, _, rfl⟩, HTS.out⟩
          case measure => rw [HC1.out, HCL.out]; simp [intOf]; omega

end Go.Proofs.Ytffehnojcajhiaa.Wire
