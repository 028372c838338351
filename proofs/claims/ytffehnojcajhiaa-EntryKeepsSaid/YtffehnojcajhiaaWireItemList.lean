/-
  The document's own reading of a list.
-/
import Derived.Test.YtffehnojcajhiaaWireItemA
namespace Go.Proofs.Ytffehnojcajhiaa.Wire
open Go Go.RowKit Go.Proofs.Ytffehnojcajhiaa.Law

theorem rdI_err : ∀ (b c : Nat) (bs : List Nat) (k : Nat), rdI b c bs = .error k → k ≠ 0 := by
  intro b
  induction b with
  | zero => intro c bs k h; simp [rdI] at h; omega
  | succ b ih =>
    have hL : ∀ (n c : Nat) (bs : List Nat) (acc : List Item) (k : Nat), rdL (rdI b) n c bs acc = .error k → k ≠ 0 := by
      intro n
      induction n with
      | zero => intro c bs acc k h; simp [rdL] at h
      | succ n ihn =>
        intro c bs acc k h
        rw [rdL] at h
        match hq : rdI b c bs with
        | .error e => rw [hq] at h; simp only [Except.error.injEq] at h; subst h; exact ih c bs e hq
        | .ok (y, c2, r2) => rw [hq] at h; exact ihn c2 r2 _ k h
    intro c bs k h
    rw [rdI] at h
    split at h
    · simp only [Except.error.injEq] at h; omega
    · match hh : rdHead bs with
      | .error e =>
        rw [hh] at h
        simp only [Except.error.injEq] at h
        subst h
        match bs, hh with
        | [], hh => simp [rdHead] at hh; omega
        | q :: bs, hh =>
          rw [rdHead] at hh
          split at hh
          · simp only [Except.error.injEq] at hh; omega
          · match hz : rdNum 0 0 bs with
            | .error e' => rw [hz] at hh; simp only [Except.error.injEq] at hh; subst hh; exact rdNum_err _ _ _ _ hz
            | .ok (m, r2) =>
              rw [hz] at hh
              simp only at hh
              split at hh
              · simp only [Except.error.injEq] at hh; omega
              · cases hh
      | .ok (q, n, r1) =>
        rw [hh] at h
        simp only at h
        split at h
        · cases h
        · split at h
          · split at h
            · simp only [Except.error.injEq] at h; omega
            · cases h
          · match hq : rdL (rdI b) n (c + 1) r1 [] with
            | .error e => rw [hq] at h; simp only [Except.error.injEq] at h; subst h; exact hL _ _ _ _ _ hq
            | .ok (l, c2, r2) => rw [hq] at h; cases h

/-- A list out of its items. -/
def listOf : Except Nat (List Item × Nat × List Nat) → Except Nat (Item × Nat × List Nat)
  | .error e => .error e
  | .ok (l, c, r) => .ok (.mk 2 0 noT l, c, r)

abbrev listBox (u : Value) : Obj := .cells #[.int .i64 2, .int .i64 0, .string ⟨#[]⟩, u] 71

/-- What lies ahead of the k-th item of a list. -/
def LS (w : World) (rb n₀ b n : Nat) (R : Except Nat (List Item × Nat × List Nat)) (k : Nat) (W : World) : Prop :=
  ∃ c B bs acc u, rdL (rdI b) (n - k) c bs acc = R ∧ c ≤ 4096 ∧ acc.length ≤ c ∧ bs.length ≤ 65536 ∧ Rd W rb B c 0 ∧ Bytes n₀ W B bs ∧ w.grownBy W (some rb) ∧ W.heap[w.heap.size]? = some zeroBox ∧ W.heap[w.heap.size + 1]? = some (listBox u) ∧ Grow (w.heap.size + 2) W.heap.size W u acc

theorem Grow.own {lo hi : Nat} {W : World} {v : Value} {l : List Item} (h : Grow lo hi W v l) : ∀ b, v.ownBlock = some b → lo ≤ b ∧ b < hi := fun b hb => by
  obtain ⟨_, h0, val, h1, _⟩ := h
  exact ⟨(h1.1.lt b hb).1, h0 b hb⟩

/-- An item more. -/
theorem list_more {w W W2 : World} {rb n₀ b n k c c' : Nat} {B' u u' : Value} {bs' : List Nat} {acc : List Item} {x : Item} {R : Except Nat (List Item × Nat × List Nat)} (hrb : rb < w.heap.size) (hn : n₀ ≤ rb)
    (hR : rdL (rdI b) (n - (k + 1)) c' bs' (acc ++ [x]) = R) (hc : c < c') (hc' : c' ≤ 4096) (hacc : acc.length ≤ c) (hbs : bs'.length ≤ 65536) (hG : w.grownBy W (some rb)) (hz : W.heap[w.heap.size]? = some zeroBox) (hl : W.heap[w.heap.size + 1]? = some (listBox u))
    (hGr : Grow (w.heap.size + 2) W.heap.size W u acc) (hG2 : W.grownBy W2 (some rb)) (hRd : Rd W2 rb B' c' 0) (hBy : Bytes n₀ W2 B' bs') (hu : Items (fun b => W.heap.size ≤ b ∧ b < W2.heap.size) W2 u' x.kids) (ty : TypeId) (o : Obj) :
    ∃ v' W', (Builtin.append_ #[51, 51] ty #[u, .slice (some ⟨W2.heap.size + 1, 0, none⟩) 1 1]).run Try.prog ((W2.alloc o).alloc (.cells #[.int .i64 x.kind, .int .i64 x.n, .string x.s, u'] 71)) = .ok v' W' ∧
      W'.frozen? ⟨w.heap.size + 1, 3, none⟩ = false ∧ (∃ A l cap, v' = .slice A l cap) ∧ W'.cell? ⟨w.heap.size + 1, 3, none⟩ = some u ∧ LS w rb n₀ b n R (k + 1) (W'.setCell ⟨w.heap.size + 1, 3, none⟩ v') := by
  have hws := hG.size
  have hlt1 : w.heap.size + 1 < W.heap.size := lt_of_some hl
  have hW2 := hG2.size
  have hl2 : W2.heap[w.heap.size + 1]? = some (listBox u) := (hG2.block _ hlt1 (by simp; omega)).trans hl
  have hz2 : W2.heap[w.heap.size]? = some zeroBox := (hG2.block _ (by omega) (by simp; omega)).trans hz
  have hlt2 := lt_of_some hl2
  have hGr2 : Grow (w.heap.size + 2) W.heap.size (W2.alloc o) u acc := hGr.keep (fun b h1 h2 => (Below.heap_alloc _ _ _ (by omega)).trans (hG2.block b h2 (by simp; omega))) (Nat.le_refl _) (by simp; omega)
  have hgo := hGr.own
  obtain ⟨v', W', hrun, hGr', hG', hor⟩ := hGr2.append (by omega) x u' (hu.keep (fun b hb => Below.heap_alloc _ _ _ hb.2) (fun b hb => ⟨by omega, by simp; omega, fun e => by have := (hgo b e).2; omega⟩)) ty (by omega)
  have hsz : W2.heap.size + 1 ≤ W'.heap.size := by have := hG'.size; simpa using this
  have hkeep : ∀ j, j < w.heap.size + 2 → W'.heap[j]? = W2.heap[j]? := fun j hj => (hG'.block j (by simp; omega) (fun e => by have := (hgo j e.symm).1; omega)).trans (Below.heap_alloc _ _ _ (by omega))
  have hl3 : W'.heap[w.heap.size + 1]? = some (listBox u) := (hkeep _ (by omega)).trans hl2
  refine ⟨v', W', by simpa using hrun, by simp [World.frozen?, hl3], (by obtain ⟨A, cap, h, _⟩ := hGr'.form; exact ⟨A, _, cap, h⟩), by simp [World.cell?, hl3], c', B', bs', acc ++ [x], v', hR, hc', by simp; omega, hbs, ?_, ?_, ?_, ?_, ?_, ?_⟩
  · exact rd_put (show Rd W' rb B' c' 0 from (hkeep rb (by omega)).trans hRd) (by omega) _
  · refine by_put (Bytes.below ?_ hBy) (by omega) _
    have e2 : Below n₀ W2 (W2.alloc o) := (Below.refl _ _).alloc (by omega) _
    exact e2.grown hG' (by simp; omega) (fun k hk => by have := (hgo k hk).1; omega)
  · refine grown_put ⟨?_, ?_, ?_, by omega, fun j hj hne => ?_⟩ (by omega) _
    · exact hG'.os.trans (hG2.os.trans hG.os)
    · exact hG'.tape.trans (hG2.tape.trans hG.tape)
    · exact hG'.output.trans (hG2.output.trans hG.output)
    · exact (hkeep j (by omega)).trans ((hG2.block j (by omega) hne).trans (hG.block j hj hne))
  · rw [Below.heap_setCell _ _ _ _ (by show w.heap.size ≠ w.heap.size + 1; omega)]
    exact (hkeep _ (by omega)).trans hz2
  · simp [World.setCell, Array.getElem?_modify, hl3]
  · exact hGr'.keep (fun b h1 _ => Below.heap_setCell _ _ _ _ (by show b ≠ w.heap.size + 1; omega)) (by simp [World.setCell]) (Nat.le_refl _)

set_option maxRecDepth 100000 in
set_option maxHeartbeats 8000000 in
theorem reflist_calls (b d rb n₀ c n : Nat) (B : Value) (r r' : List Nat) (w : World) (hd : d ≤ 8) (hlen : r.length + 1 ≤ 65536) (hc : c + 1 ≤ 4096) (hR : Rd w rb B c 0) (hI : Bytes n₀ w B (2 :: r)) (hn : n₀ ≤ rb)
    (hRN : rdNum 0 0 r = .ok (n, r')) (h63 : n ≤ 9223372036854775807)
    (ih : ∀ c' B' bs' W, bs'.length ≤ 65536 → c' ≤ 4096 → Rd W rb B' c' 0 → Bytes n₀ W B' bs' → Calls Try.prog 45 #[.pointer (some ⟨rb, 0, none⟩), .int .i64 ((d : Int) + 1)] W (ItemRead W rb n₀ (rdI b c' bs'))) :
    Calls Try.prog 45 #[.pointer (some ⟨rb, 0, none⟩), .int .i64 (d : Nat)] w (ItemRead w rb n₀ (listOf (rdL (rdI b) n (c + 1) r' []))) := by
  have IH := Lib.hid ih
  have HN63 := Lib.hid h63
  obtain ⟨R, hRR⟩ : ∃ R, rdL (rdI b) n (c + 1) r' [] = R := ⟨_, rfl⟩
  rw [hRR]
  have HRR := Lib.hid hRR
  clear ih h63 hRR
  obtain ⟨r0, r1, r2, z0, z1, z2⟩ := hR.cells
  have hrb := lt_of_some hR
  have hne : ¬ rb = w.heap.size := by omega
  have hne2 : ¬ rb = w.heap.size + 1 := by omega
  obtain ⟨A, cap, rfl⟩ := hI.form
  obtain ⟨len, hlen0⟩ : ∃ len, (2 :: r).length = len := ⟨_, rfl⟩
  have hcap := hI.capOk
  rw [hlen0] at hI hR hcap r0
  have hl1 : r.length + 1 = len := by simpa using hlen0
  have HR := Lib.hid hR
  have HI := Lib.hid hI
  clear hR hI hlen0
  have hdI : ¬ 8 < (d : Int) := by omega
  have hbI : ¬ 4096 < (c : Int) + 1 := by omega
  obtain ⟨bk, off, rfl, hbk, hcl⟩ := HI.out.cells (by omega)
  have hc0 := hcl 0 (by omega)
  rw [Nat.add_zero, show (2 :: r).getD 0 0 = 2 from rfl] at hc0
  have hlI : ¬ (len : Int) = 0 := by omega
  have hlI2 : 0 < (len : Int) := by omega
  have hneb : ¬ bk = rb := by omega
  have hcX : ∀ (v : Value) (o : Obj), ((w.setCell ⟨rb, 1, none⟩ v).alloc o).cell? ⟨bk, off, none⟩ = some (.int .u8 2) := fun v o => by
    have h1 : (w.setCell ⟨rb, 1, none⟩ v).cell? ⟨bk, off, none⟩ = some (.int .u8 2) := (World.cell?_of_block (a := ⟨bk, off, none⟩) (Below.heap_setCell _ _ _ _ hneb)).trans hc0
    exact (World.cell?_of_block (a := ⟨bk, off, none⟩) (Below.heap_alloc _ _ _ (block_lt_cell h1))).trans h1
  clear hcl
  obtain ⟨B1, hrun, hB1⟩ := run_behind HI.out .i64 (show 1 ≤ len by omega)
  have hrun1 : ∀ w', (Instr.sliceAt 48 (.slice (some ⟨bk, off, none⟩) len cap) (some (.int .i64 1)) none none).run Try.prog w' = .ok B1 w' := fun w' => by simpa using hrun w'
  replace hB1 : Bytes n₀ w B1 r := hB1
  obtain ⟨A1, cap1, rfl⟩ := hB1.form
  obtain ⟨lr, hlr⟩ : ∃ lr, r.length = lr := ⟨_, rfl⟩
  rw [hlr] at hB1 hrun1
  have HRUN := Lib.hid hrun1
  have HW5 := Lib.hid (fun o => read1 HR.out hn hB1 (v := .int .i64 ((c : Int) + 1)) rfl o)
  have HLR := Lib.hid hlr
  have HRN := Lib.hid hRN
  clear hrun hrun1 hB1 hlr hRN
  have hnn1 : ¬ w.heap.size = rb := by omega
  go_enter Try.func45, Try.ntmps45
  go_wp2_with (refine wpList_slice_ran (o := ⟨some 59, _, _, _, _, _⟩) rfl _ _ _ _ _ rfl rfl rfl rfl rfl (HRUN.out _) ?_)
  obtain ⟨g1, g2, g3, g4, g5, g6⟩ := HW5.out (.cells #[.int .i64 2, .int .i64 0, .string ⟨#[]⟩, .slice none 0 0] 71)
  have cN := refnumber_calls rb n₀ (c + 1) (.slice A1 lr cap1) r (by omega) _ g1 g2 hn
  rw [HRN.out] at cN
  have key : ∀ (W2 : World), ((((w.setCell ⟨rb, 1, none⟩ (.int .i64 ((c : Int) + 1))).setCell ⟨rb, 0, none⟩ (.slice A1 lr cap1)).alloc zeroBox).alloc (.cells #[.int .i64 2, .int .i64 0, .string ⟨#[]⟩, .slice none 0 0] 71)).grownBy W2 (some rb) →
      W2.heap[w.heap.size]? = some zeroBox ∧ W2.heap[w.heap.size + 1]? = some (.cells #[.int .i64 2, .int .i64 0, .string ⟨#[]⟩, .slice none 0 0] 71) ∧ w.grownBy W2 (some rb) ∧ w.heap.size + 2 ≤ W2.heap.size := fun W2 hG =>
    ⟨(hG.block _ (by rw [g6]; omega) (by simp; omega)).trans g3, (hG.block _ (by rw [g6]; omega) (by simp; omega)).trans g4, g5.trans hG, by have := hG.size; omega⟩
  have KEY := Lib.hid key
  clear key g1 g2 g3 g4 g5 g6 hcX hc0 r0 r1 r2 z0 z1 z2
  refine cN.mono ?_
  clear cN
  rintro e W2 ⟨rfl, hG, B2, hR2, hI2⟩
  obtain ⟨k1, k2, k3, k4⟩ := KEY.out W2 hG
  obtain ⟨q0, q1, q2, q3, p0, p1, p2, p3⟩ := box4 k1
  obtain ⟨i0, i1, i2, i3, j0, j1, j2, j3⟩ := box4 k2
  have hrl : r'.length ≤ 65536 := by have := (rdNum_length r 0 0 n r' HRN.out).1; omega
  obtain ⟨A2, cap2, rfl⟩ := hI2.form
  obtain ⟨l2, hl2⟩ : ∃ l2, r'.length = l2 := ⟨_, rfl⟩
  rw [hl2] at hI2 hR2 hrl
  obtain ⟨r0, r1, r2, z0, z1, z2⟩ := hR2.cells
  have hhne : ¬ w.heap.size + 1 = w.heap.size := by omega
  have hhne2 : ¬ w.heap.size = w.heap.size + 1 := by omega
  have hrne2 : ¬ w.heap.size + 1 = rb := by omega
  have HR2 := Lib.hid hR2
  have HI2 := Lib.hid hI2
  have K3 := Lib.hid k3
  have K2 := Lib.hid k2
  have K2b' := Lib.hid k1
  have HL2 := Lib.hid hl2
  clear hG hR2 hI2 KEY k2 k1 k3 hl2 HRUN HW5 HRN

  have hn63 := HN63.out
  have hb63 : decide ((9223372036854775807 : Int) < (n : Int)) = false := by simp only [decide_eq_false_iff_not]; omega
  have hd8 : (d : Int) ≤ 8 := by omega
  have hstart : LS w rb n₀ b n R 0 W2 := by
    have hll := HL2.out
    have hRR := HRR.out
    exact ⟨c + 1, _, r', [], .slice none 0 0, by simpa using hRR, by omega, by simp, by omega, HR2.out, HI2.out, K3.out, K2b'.out, K2.out, Grow.nil _ _ _ (Nat.le_refl _)⟩
  have HSTART := Lib.hid hstart
  clear hstart HRR hn63 q0 q1 q2 q3 p0 p1 p2 p3
  go_wp2_with fail
  trace "LOOP"
  go_loopw [7] (fun i wr => ∃ k : Nat, i = .int .u64 k ∧ k ≤ n ∧ LS w rb n₀ b n R k wr) (fun i _ => n - (intOf i).toNat)
  case atStart => exact ⟨0, rfl, Nat.zero_le _, HSTART.out⟩
  case round =>
    obtain ⟨k, rfl, hk, hLS⟩ := hrel
    have hwk : wr.heap[w.heap.size]? = some zeroBox ∧ rb < wr.heap.size ∧ w.heap.size + 1 < wr.heap.size := by
      obtain ⟨c1, B1, bs1, acc, u, h1, h2, h3, h4, h5, h6, h7, h8, h9, h10⟩ := hLS
      exact ⟨h8, lt_of_some h5, lt_of_some h9⟩
    by_cases hlt : k < n
    · obtain ⟨c1, B1, bs1, acc, u, h1, h2, h3, h4, h5, h6, h7, h8, h9, h10⟩ := hLS
      have hgt := hwk.2
      clear hwk
      obtain ⟨Au, cu, rfl, _⟩ := h10.form
      obtain ⟨lu, hlu⟩ : ∃ lu, acc.length = lu := ⟨_, rfl⟩
      rw [hlu] at h9 h10
      rw [show n - k = (n - (k + 1)) + 1 by omega, rdL] at h1
      have cI := IH.out c1 B1 bs1 wr h4 h2 h5 h6
      obtain ⟨RI, hRI⟩ : ∃ RI, rdI b c1 bs1 = RI := ⟨_, rfl⟩
      rw [hRI] at cI h1
      have H1 := Lib.hid h1
      have HRI := Lib.hid hRI
      have H2 := Lib.hid h2
      have H3 := Lib.hid h3
      have H4 := Lib.hid h4
      have H7 := Lib.hid h7
      have H8 := Lib.hid h8
      have H9 := Lib.hid h9
      have H10 := Lib.hid h10
      have HCI := Lib.hid cI
      clear h1 hRI h2 h3 h4 h5 h6 h7 h8 h9 h10 cI hlu
      go_wp2_with fail
      refine HCI.out.mono ?_
      clear HCI
      rintro e w2 hN
      cases RI with
      | error k' =>
        obtain ⟨B', c', rfl, hG2, hRd2⟩ := hN
        have hR0 : R = .error k' := H1.out.symm
        have hk0 := rdI_err _ _ _ _ HRI.out
        have hkI : ((k' : Int) == 0) = false := by simp; omega
        have hkI2 : ¬ (k' : Int) = 0 := by omega
        have hsz2 := hG2.size
        have hz2 : w2.heap[w.heap.size]? = some zeroBox := (hG2.block _ (by omega) (by simp; omega)).trans H8.out
        have hq : ∀ o, (w2.alloc o).heap[w.heap.size]? = some zeroBox := fun o => (Below.heap_alloc _ _ _ (lt_of_some hz2)).trans hz2
        have hrd : ∀ o, Rd (w2.alloc o) rb B' c' k' := fun o => hRd2.below ((Below.refl _ _).alloc (Nat.le_refl _) _)
        have q0 := fun o => (box4 (hq o)).1
        have q1 := fun o => (box4 (hq o)).2.1
        have q2 := fun o => (box4 (hq o)).2.2.1
        have q3 := fun o => (box4 (hq o)).2.2.2.1
        have p0 := fun o => (box4 (hq o)).2.2.2.2.1
        have p1 := fun o => (box4 (hq o)).2.2.2.2.2.1
        have p2 := fun o => (box4 (hq o)).2.2.2.2.2.2.1
        have p3 := fun o => (box4 (hq o)).2.2.2.2.2.2.2
        have rr := fun o => (hrd o).cells.2.2.1
        have HRD := Lib.hid hrd
        have HG := Lib.hid (H7.out.trans hG2)
        have HR0 := Lib.hid hR0
        clear hq hrd hG2 hRd2 hR0 H1 HRI H8 H9 H10 hz2
        go_wp2_with fail
        trace "ERR"
        refine bodyPost_ret (v := zeroItem) (by simp [results, Try.results45, go_sem, q0, q1, q2, q3]) rfl ?_
        rw [HR0.out]
        exact ⟨B', c', rfl, grown_put4 (grown_alloc HG.out _) (Nat.le_refl _) _ _ _ _, rd_put4 (HRD.out _) (by omega) _ _ _ _⟩
      | ok q =>
        obtain ⟨x, c', bs'⟩ := q
        obtain ⟨u', B', rfl, hG2, hRd2, hBy2, hIt2⟩ := hN
        obtain ⟨Ax, cx, rfl, _⟩ := hIt2.form
        obtain ⟨lx, hlx⟩ : ∃ lx, x.kids.length = lx := ⟨_, rfl⟩
        rw [hlx] at hIt2 ⊢
        have hcnt := rdI_count _ _ _ _ _ _ HRI.out
        have hsz2 := hG2.size
        obtain ⟨v', W', hrun, hf, ⟨Av, lv, cv, rfl⟩, hcl, hLS'⟩ := list_more (by omega) hn H1.out hcnt.1 hcnt.2.1 H3.out (Nat.le_trans hcnt.2.2 H4.out) H7.out H8.out H9.out H10.out hG2 hRd2 hBy2 hIt2 51 (.cells #[.int .i64 x.kind, .int .i64 x.n, .string x.s, .slice Ax lx cx] 71)
        have hl2 : w2.heap[w.heap.size + 1]? = some (listBox (.slice Au lu cu)) := (hG2.block _ (by omega) (by simp; omega)).trans H9.out
        have hq : ∀ o, (w2.alloc o).heap[w.heap.size + 1]? = some (listBox (.slice Au lu cu)) := fun o => (Below.heap_alloc _ _ _ (lt_of_some hl2)).trans hl2
        have hrd : ∀ o, Rd (w2.alloc o) rb B' c' 0 := fun o => hRd2.below ((Below.refl _ _).alloc (Nat.le_refl _) _)
        have q3 := fun o => (box4 (hq o)).2.2.2.1
        have rr := fun o => (hrd o).cells.2.2.1
        have HRUN := Lib.hid hrun
        have HLS := Lib.hid hLS'
        have hkn : IntKind.u64.wrap ((k : Int) + 1) = ((k + 1 : Nat) : Int) := by rw [IntKind.wrap_u64]; have := HN63.out; omega
        have HKN := Lib.hid hkn
        clear hq hrd hG2 hRd2 hBy2 hIt2 H1 HRI H7 H8 H9 H10 hrun hLS' hkn hl2 hlx
        dsimp only [aggOf]
        go_wp2_with (refine wpList_append_ran (o := ⟨some 144, _, _, _, _, _⟩) rfl _ _ _ rfl rfl rfl HRUN.out ?_)
        trace "APP"
        go_roundw
        case rel => exact ⟨k + 1, by rw [HKN.out], by omega, HLS.out⟩
        case measure => simp [intOf, HKN.out]; omega
    · obtain rfl : k = n := by omega
      obtain ⟨c1, B1, bs1, acc, u, h1, h2, h3, h4, h5, h6, h7, h8, h9, h10⟩ := hLS
      obtain ⟨q0, q1, q2, q3, p0, p1, p2, p3⟩ := box4 h8
      obtain ⟨Au, cu, rfl, _⟩ := h10.form
      obtain ⟨lu, hlu⟩ : ∃ lu, acc.length = lu := ⟨_, rfl⟩
      rw [hlu] at h9 h10
      obtain ⟨i0, i1, i2, i3, j0, j1, j2, j3⟩ := box4 h9
      have hRR : R = .ok (acc, c1, bs1) := by rw [← h1, Nat.sub_self, rdL]
      have HRR := Lib.hid hRR
      have H5 := Lib.hid h5
      have H6 := Lib.hid h6
      have H7 := Lib.hid h7
      have H10 := Lib.hid h10
      have hgt := hwk.2
      clear hRR h1 h2 h3 h4 h5 h6 h7 h8 h9 h10 hwk hlu
      go_wp2_with fail
      trace "END"
      refine bodyPost_ret (v := aggOf (.mk 2 0 noT acc) (.slice Au lu cu)) (by simp [aggOf, noT, Item.kind, Item.n, Item.s, results, Try.results45, go_sem, q0, q1, q2, q3]) rfl ?_
      rw [HRR.out]
      refine ⟨_, B1, rfl, grown_put4 H7.out (Nat.le_refl _) _ _ _ _, rd_put4 H5.out (by omega) _ _ _ _, by_put4 H6.out (by omega) _ _ _ _, ?_⟩
      refine H10.out.items.keep (fun b hb => ?_) (fun b hb => ⟨by omega, by simp [World.setCell]; omega⟩)
      rw [Below.heap_setCell _ _ _ _ (by show b ≠ w.heap.size; omega), Below.heap_setCell _ _ _ _ (by show b ≠ w.heap.size; omega), Below.heap_setCell _ _ _ _ (by show b ≠ w.heap.size; omega), Below.heap_setCell _ _ _ _ (by show b ≠ w.heap.size; omega)]

end Go.Proofs.Ytffehnojcajhiaa.Wire
