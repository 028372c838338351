/-
  The contract of disk's written.
-/
import Derived.Test.YtlmohcmnoddncaaDiskCut
import Derived.Deep.RegionLaw
namespace Go.Proofs.Ytlmohcmnoddncaa.Disk
open Go Go.RowKit Go.Lib Go.Proofs.Ytlmohcmnoddncaa.Law

theorem wpList_sliced {P : Program} {ops : Array Oper} {rest : List Oper} {o : Oper} {a : Act} {w : World} {Q : Exit → Act → World → Prop} (hgd : Region.wanted o (yielded ops a.tmps) = true) (t : TypeId) (x : Operand) (lo hi mx : Option Operand)
    (ho : o.op = .slice t x lo hi mx) {xv v' : Value} {lov hiv mxv : Option Value} (hx : a.eval x = xv) (hlo : lo.map a.eval = lov) (hhi : hi.map a.eval = hiv) (hmx : mx.map a.eval = mxv)
    (hrun : (Instr.sliceAt t xv lov hiv mxv).run P w = .ok v' w) (h : wpList P ops Q rest (a.put o.dst v') w) : wpList P ops Q (o :: rest) a w := by
  refine wpList_step fun K hK => ?_
  rw [if_pos hgd]
  unfold Oper.wp execOp
  simp only [ho, hx, hlo, hhi, hmx, Sem.run_bind, Sem.run_pure, hrun, Result.andThen_ok]
  exact hK _ _ h

theorem size_byte (w : World) : (sizeOf (Try.prog.elem 34)).run Try.prog w = .ok 1 w := by
  have : Try.prog.elem 34 = 5 := by kernel_rfl
  rw [this]
  obtain ⟨i0, hi, _, hz1, _⟩ := info_parts info_u8d
  simp [sizeOf, typeInfo, hi, hz1]
theorem elem_bytes : Try.prog.underlying 34 = some (.slice (Try.prog.elem 34)) := by kernel_rfl
theorem run_from (A : Option Addr) (len cap k : Nat) (hk : k ≤ len) (w : World) : (Instr.sliceAt 34 (.slice A len cap) (some (.int .i64 (k : Nat))) none none).run Try.prog w = .ok (sliced A k len cap 1) w := by
  rw [run_sliceAt_slice (P := Try.prog) (w := w) _ _ _ _ _ elem_bytes, run_slice_l (P := Try.prog) (w := w) 34 A len cap elem_bytes .i64 (k : Nat) (by omega) (by omega), size_byte, Result.andThen_ok]
  simp

/-- What copy leaves of a buffer. -/
theorem copied_in {W : World} {base : Nat} {v : Value} {bs : List Nat} (h : Buf W base 5 v bs) (k : Nat) (hk : k ≤ bs.length) (s : ByteArray) (hlen : bs.length ≤ 140737488355328) :
    ∃ SA sl sc W', (∀ w, (Instr.sliceAt 34 v (some (.int .i64 (k : Nat))) none none).run Try.prog w = .ok (.slice SA sl sc) w) ∧ (Builtin.copy_ #[34, 9] 3 #[.slice SA sl sc, .string s]).run Try.prog W = .ok (.int .i64 ((Nat.min s.size (bs.length - k) : Nat) : Int)) W' ∧
      W.grownBy W' v.ownBlock ∧ W'.heap.size = W.heap.size ∧ Buf W' base 5 v (bs.take k ++ (bytesS s).take (Nat.min s.size (bs.length - k)) ++ bs.drop (k + Nat.min s.size (bs.length - k))) ∧
      (∀ b2 v2 xs, Buf W b2 5 v2 xs → v2.ownBlock = v.ownBlock → xs.length ≤ k → Buf W' b2 5 v2 xs) ∧ (k = bs.length → W' = W) := by
  obtain ⟨i0, hi, hz0, hz1, hz2⟩ := info_parts info_u8d
  obtain ⟨A, cap, rfl, hcap⟩ := h.form
  by_cases hlt : k < bs.length
  · rcases h.2 with ⟨_, h0⟩ | ⟨g, cap', cur, hv, _⟩
    · rw [h0] at hlt; simp at hlt
    · simp only [Value.slice.injEq] at hv
      obtain ⟨rfl, _, rfl⟩ := hv
      obtain ⟨W', hr, h1, h2, h3, h4⟩ := Buf_copy h k hk s 3
      refine ⟨some ⟨g, k, none⟩, bs.length - k, cap - k, W', fun w => ?_, ?_, h1, h2, h3, h4, fun e => by omega⟩
      · rw [run_from _ _ _ _ hk]
        unfold sliced
        rw [if_neg (by omega)]
        simp [Addr.add_lit]
      · rw [hr]
        have : Nat.min s.size (bs.length - k) ≤ 140737488355328 := Nat.le_trans (Nat.min_le_right _ _) (by omega)
        simp [goInt]
  · obtain rfl : k = bs.length := by omega
    have hn : Nat.min s.size (bs.length - bs.length) = 0 := by rw [Nat.sub_self]; exact Nat.min_zero _
    have hsl : ∃ SA sc, sliced A bs.length bs.length cap 1 = .slice SA 0 sc := ⟨if cap = bs.length then A else A.map (·.add (bs.length * 1)), cap - bs.length, by simp [sliced]⟩
    obtain ⟨SA, sc, hsl⟩ := hsl
    refine ⟨SA, 0, sc, W, fun w => by rw [run_from _ _ _ _ hk, hsl], ?_, ⟨rfl, rfl, rfl, Nat.le_refl _, fun _ _ _ => rfl⟩, rfl, ?_, fun _ _ _ h _ _ => h, fun _ => rfl⟩
    · rw [run_copy_nowhere (P := Try.prog) W 34 9 3 5 SA sc s Try.underlying34 (by rw [hi]; simp [hz1]), hn]
      simp [goInt]
    · rw [hn]
      simpa using h

/-- What written leaves. -/
def Written (w : World) (base : Nat) (v : Value) (bs : List Nat) (k : Nat) (s : ByteArray) (e : Ending) (W : World) : Prop :=
  ∃ v', e = .returned (contentV true v') ∧ Buf W base 5 v' (overL bs k (bytesS s)) ∧ w.grownBy W v.ownBlock ∧ (v'.ownBlock = v.ownBlock ∨ ∃ g, v'.ownBlock = some g ∧ w.heap.size ≤ g) ∧
    (∀ b2 v2 xs, Buf w b2 5 v2 xs → v2.ownBlock = v.ownBlock → xs.length ≤ k → Buf W b2 5 v2 xs) ∧
    (k = bs.length → (∃ A, v = .slice A bs.length bs.length) → (∀ j, j < w.heap.size → W.heap[j]? = w.heap[j]?) ∧ ((∃ g, v'.ownBlock = some g ∧ w.heap.size ≤ g) ∨ ∃ A n, v' = .slice A n n))

theorem bytesS_extract (s : ByteArray) (n : Nat) : bytesS (s.extract n s.size) = (bytesS s).drop n ∧ (s.extract n s.size).size = s.size - n := by
  have h2 : (s.extract n s.size).size = s.size - n := by simp
  refine ⟨?_, h2⟩
  have h3 : s.data.toList.extract n s.size = s.data.toList.drop n := by
    rw [List.extract_eq_take_drop]
    refine List.take_of_length_le ?_
    rw [List.length_drop, Array.length_toList]
    exact Nat.le_refl _
  unfold bytesS
  rw [ByteArray.data_extract, Array.toList_extract, h3, List.map_drop]

set_option maxRecDepth 100000 in
set_option maxHeartbeats 4000000 in
theorem written_calls (there : Bool) (v : Value) (bs : List Nat) (k : Nat) (hk : k ≤ bs.length) (s : ByteArray) (hroom : bs.length + s.size ≤ 140737488351232) (base : Nat) (w : World) (h : Buf w base 5 v bs) (hbase : base ≤ w.heap.size) :
    Calls Try.prog 62 #[contentV there v, .int .i64 (k : Nat), .string s] w (Written w base v bs k s) := by
  obtain ⟨i0, hi, hz0, hz1, hz2⟩ := info_parts info_u8d
  obtain ⟨A, cap, rfl, _⟩ := h.form
  have hown := h.own
  have hB1 : Below w.heap.size w ((w.alloc (.cells #[.bool there, .slice A bs.length cap] 75)).alloc (.cells #[.bool false, .slice none 0 0] 75)) := ((Below.refl _ _).alloc (Nat.le_refl _) _).alloc (by simp) _
  have hx0 : ((w.alloc (.cells #[.bool there, .slice A bs.length cap] 75)).alloc (.cells #[.bool false, .slice none 0 0] 75)).heap[w.heap.size]? = some (.cells #[.bool there, .slice A bs.length cap] 75) := (Below.heap_alloc _ _ _ (by simp)).trans (heap_alloc_new w _)
  have hx1 : ((w.alloc (.cells #[.bool there, .slice A bs.length cap] 75)).alloc (.cells #[.bool false, .slice none 0 0] 75)).heap[w.heap.size + 1]? = some (.cells #[.bool false, .slice none 0 0] 75) := by
    have := heap_alloc_new (w.alloc (.cells #[.bool there, .slice A bs.length cap] 75)) (.cells #[.bool false, .slice none 0 0] 75)
    rw [World.size_alloc] at this
    exact this
  have hsz1 : ((w.alloc (.cells #[.bool there, .slice A bs.length cap] 75)).alloc (.cells #[.bool false, .slice none 0 0] 75)).heap.size = w.heap.size + 2 := by simp
  obtain ⟨SA, sl, sc, W2, hslice, hcopy, hG2, hS2, hBf2, hf2, hsame2⟩ := copied_in (h.below hB1) k hk s (by omega)
  obtain ⟨n, hn⟩ : ∃ n, Nat.min s.size (bs.length - k) = n := ⟨_, rfl⟩
  have hns : n ≤ s.size := by rw [← hn]; exact Nat.min_le_left _ _
  rw [hn] at hcopy hBf2
  have hex := bytesS_extract s n
  have hl1 : (bs.take k ++ (bytesS s).take n ++ bs.drop (k + n)).length = bs.length := by
    have : n ≤ bs.length - k := by rw [← hn]; exact Nat.min_le_right _ _
    simp only [List.length_append, List.length_take, List.length_drop, bytesS_length]; omega
  have hBf3 : Buf W2.drew base 5 (.slice A bs.length cap) (bs.take k ++ (bytesS s).take n ++ bs.drop (k + n)) := hBf2
  obtain ⟨v', W3, happ, hBf4, hG3, hor, hf3, hfull⟩ := hBf3.append_string (P := Try.prog) (u := 9) 34 Try.underlying34 Try.underlying9 hi hz0 hz1 hz2 (s.extract n s.size) (by rw [hl1, hex.2]; omega) (by show base ≤ W2.heap.size; omega)
  rw [hex.1] at hBf4
  have hover := overL_parts bs k hk (bytesS s) n (by rw [bytesS_length]; exact hn.symm)
  rw [← hover] at hBf4
  have hblk : ∀ j, w.heap.size ≤ j → j < w.heap.size + 2 → W3.heap[j]? = ((w.alloc (.cells #[.bool there, .slice A bs.length cap] 75)).alloc (.cells #[.bool false, .slice none 0 0] 75)).heap[j]? := fun j hj1 hj2 => by
    have hne : some j ≠ (Value.slice A bs.length cap).ownBlock := fun e => by have := (hown j e.symm).2; omega
    exact (hG3.block j (by show j < W2.heap.size; omega) hne).trans (hG2.block j (by omega) hne)
  have c0 := two2 ((hG2.block w.heap.size (by omega) (fun e => by have := (hown _ e.symm).2; omega)).trans hx0)
  have c1 := two2 ((hG2.block (w.heap.size + 1) (by omega) (fun e => by have := (hown _ e.symm).2; omega)).trans hx1)
  have d1 := two2 ((hblk (w.heap.size + 1) (by omega) (by omega)).trans hx1)
  obtain ⟨A', cap', hv', _⟩ := hBf4.form
  have hs3 : w.heap.size + 2 ≤ W3.heap.size := by
    have h1 : W2.heap.size ≤ W3.heap.size := hG3.size
    omega
  have hvne : ∀ g, v'.ownBlock = some g → g ≠ w.heap.size + 1 := fun g hg e => by
    rcases hor with h1 | h1
    · have := (hown g (by rw [← h1]; exact hg)).2; omega
    · rw [h1] at hg
      have h2 : W2.heap.size = g := by simpa using hg
      omega
  have hfin : Written w base (.slice A bs.length cap) bs k s (.returned (contentV true v')) ((W3.setCell ⟨w.heap.size + 1, 0, none⟩ (.bool true)).setCell ⟨w.heap.size + 1, 1, none⟩ v') := by
    have hset : ∀ j, j ≠ w.heap.size + 1 → ((W3.setCell ⟨w.heap.size + 1, 0, none⟩ (.bool true)).setCell ⟨w.heap.size + 1, 1, none⟩ v').heap[j]? = W3.heap[j]? := fun j hj => by
      rw [Below.heap_setCell _ _ _ _ hj, Below.heap_setCell _ _ _ _ hj]
    refine ⟨v', rfl, hBf4.keep (fun g hg => hset g (hvne g hg)), ?_, ?_, ?_, ?_⟩
    · have g1 : w.grownBy W3 (Value.slice A bs.length cap).ownBlock := ⟨hG3.os.trans (hG2.os.trans hB1.os), hG3.tape.trans (hG2.tape.trans hB1.tape), hG3.output.trans (hG2.output.trans hB1.output), by omega, fun j hj hne => (hG3.block j (by show j < W2.heap.size; omega) hne).trans ((hG2.block j (by omega) hne).trans (hB1.block j hj))⟩
      exact ⟨g1.os, g1.tape, g1.output, by simp only [World.setCell, Array.size_modify]; exact g1.size, fun j hj hne => (hset j (by omega)).trans (g1.block j hj hne)⟩
    · rcases hor with h1 | h1
      · exact .inl h1
      · exact .inr ⟨_, h1, by show w.heap.size ≤ W2.heap.size; omega⟩
    · intro b2 v2 xs hb he hle
      have e1 := hb.below hB1
      have e2 := hf2 b2 v2 xs e1 he hle
      have e3 := hf3 b2 v2 xs e2 he (by rw [hl1]; omega)
      exact e3.keep (fun g hg => hset g (by have := (hb.own g hg).2; omega))
    · intro hkl hA
      have e4 := hfull (by rw [hl1]; exact hA)
      refine ⟨fun j hj => ?_, e4.2.elim (fun e => .inl ⟨_, e, by show w.heap.size ≤ W2.heap.size; omega⟩) .inr⟩
      have e2 := hsame2 hkl
      have e3 := e4.1 j (by show j < W2.heap.size; omega)
      rw [hset j (by omega), e3, show W2.drew.heap[j]? = W2.heap[j]? from rfl, e2]
      exact hB1.block j hj
  have HFIN := Lib.hid hfin
  subst hv'
  obtain ⟨q0, q1, q2, q3⟩ := c0
  obtain ⟨r0, r1, r2, r3⟩ := c1
  obtain ⟨y0, y1, y2, y3⟩ := d1
  have HS := Lib.hid hslice
  have HC := Lib.hid hcopy
  have HA := Lib.hid happ
  have hnI : (n : Int) ≤ (s.size : Int) := by omega
  obtain ⟨lf, hlf⟩ : ∃ lf, (overL bs k (bytesS s)).length = lf := ⟨_, rfl⟩
  rw [hlf] at HA HFIN
  obtain ⟨lb, hlb⟩ : ∃ lb, bs.length = lb := ⟨_, rfl⟩
  rw [hlb] at HS HC HA HFIN q1 ⊢
  clear hslice hcopy happ hfin hblk hor hf2 hf3 hfull hG2 hG3 hBf2 hBf3 hBf4 hover hex hl1 hown h hn hx0 hx1 hB1 hsz1 hsame2 hvne hlf hlb hroom hk
  go_enter Try.func62, Try.ntmps62
  go_wp2_with (first
    | (refine wpList_sliced (o := ⟨some 11, _, _, _, _, _⟩) rfl _ _ _ _ _ rfl rfl rfl rfl rfl (HS.out _) ?_)
    | (refine wpList_copy_ran (o := ⟨some 13, _, _, _, _, _⟩) rfl _ _ _ _ rfl rfl rfl HC.out ?_))
  go_region_law (refine step_append_ran2 rfl _ _ _ _ rfl rfl rfl HA.out ?_)
  all_goals
    go_wp2_with fail
    refine bodyPost_ret (v := contentV true (.slice A' lf cap')) (by simp [results, Try.results62, go_sem, y0, y1]) rfl ?_
    exact HFIN.out

end Go.Proofs.Ytlmohcmnoddncaa.Disk
