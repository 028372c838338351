/-
  Put together out of texts of one chain: what they hold stands ahead of each.
-/
import Derived.Test.YtnhkpemajknfnaaGreatDoorGSeglogHeads01
import Derived.Deep.RegionLaw
import Derived.BigQuiet
/-
  Contracts of disk's cut and written.
-/
namespace Go.Proofs.YtnhkpemajknfnaaGreatDoor.Disk
open Go Go.RowKit Go.Lib Go.Proofs.YtnhkpemajknfnaaGreatDoor.Law

/-- A content of the call's own. -/
def ContentOut (w : World) (base : Nat) (there : Bool) (bs : List Nat) (e : Ending) (W : World) : Prop := ∃ v', e = .returned (contentV there v') ∧ Buf W base 5 v' bs ∧ Below w.heap.size w W

/-- What cut leaves: the front of the same block. -/
def CutOut (w : World) (A : Option Addr) (k : Nat) (e : Ending) (W : World) : Prop := e = .returned (contentV true (.slice A k k)) ∧ Below w.heap.size w W

set_option maxRecDepth 100000 in
set_option maxHeartbeats 2000000 in
theorem cut_calls (there : Bool) (A : Option Addr) (len cap k : Nat) (hA : A = none → cap = 0) (hspot : ∀ a, A = some a → a.spot = none) (hk : k ≤ cap) (hcap : cap ≤ 9223372036854775807) (w : World) :
    Calls Tryz.prog 66 #[contentV there (.slice A len cap), .int .i64 (k : Nat)] w (CutOut w A k) := by
  cases A with
  | none =>
    have := hA rfl
    obtain rfl : k = 0 := by omega
    subst this
    clear hA hspot
    go_enter Tryz.func66, Tryz.ntmps66
    go_wp2
    refine bodyPost_ret (v := contentV true (.slice none 0 0)) (by simp [results, Tryz.results66, go_sem]) rfl ⟨rfl, ?_⟩
    exact ((Below.refl _ _).alloc (Nat.le_refl _) _).alloc (by simp) _
  | some a =>
    obtain ⟨b, o, sp⟩ := a
    have := hspot _ rfl
    simp only at this
    subst this
    have hkI : (k : Int) ≤ (cap : Int) := by omega
    clear hA hspot
    go_enter Tryz.func66, Tryz.ntmps66
    go_wp2
    refine bodyPost_ret (v := contentV true (.slice (some ⟨b, o, none⟩) k k)) (by simp [results, Tryz.results66, go_sem]) rfl ⟨rfl, ?_⟩
    exact ((Below.refl _ _).alloc (Nat.le_refl _) _).alloc (by simp) _

theorem step_append_ran2 {P : Program} {ops : Array Oper} {o : Oper} {a : Act} {w : World} {K : Act → World → Prop} {Q : Exit → Act → World → Prop} {E : Prop} (hgd : Region.wanted o (yielded ops a.tmps) = true) (s x : Operand) (t u : TypeId)
    (ho : o.op = .call { callee := .builtin .append, args := #[s, x], argTypes := #[t, u] }) {v sv v' : Value} {w' : World} (hs : a.eval s = v) (hx : a.eval x = sv)
    (hrun : (Builtin.append_ #[t, u] o.type #[v, sv]).run P w = .ok v' w') (h : K (a.put o.dst v') w') : if Region.wanted o (yielded ops a.tmps) = true then Oper.wp P o a w K Q else E := by
  rw [if_pos hgd]
  unfold Oper.wp execOp
  simp only [ho, resolve, invoke, builtin, Sem.run_bind, Sem.run_pure, Result.andThen_ok, List.map_toArray, List.map_cons, List.map_nil, hs, hx, hrun]
  exact h
theorem wpList_copy_ran {P : Program} {ops : Array Oper} {rest : List Oper} {o : Oper} {a : Act} {w : World} {Q : Exit → Act → World → Prop} (hgd : Region.wanted o (yielded ops a.tmps) = true) (s x : Operand) (t u : TypeId)
    (ho : o.op = .call { callee := .builtin .copy, args := #[s, x], argTypes := #[t, u] }) {v sv v' : Value} {w' : World} (hs : a.eval s = v) (hx : a.eval x = sv)
    (hrun : (Builtin.copy_ #[t, u] o.type #[v, sv]).run P w = .ok v' w') (h : wpList P ops Q rest (a.put o.dst v') w') : wpList P ops Q (o :: rest) a w := by
  refine wpList_step fun K hK => ?_
  rw [if_pos hgd]
  unfold Oper.wp execOp
  simp only [ho, resolve, invoke, builtin, Sem.run_bind, Sem.run_pure, Result.andThen_ok, List.map_toArray, List.map_cons, List.map_nil, hs, hx, hrun]
  exact hK _ _ h

/-- Bytes with others from a place on. -/
def overL (bs : List Nat) (k : Nat) (d : List Nat) : List Nat := bs.take k ++ d ++ bs.drop (k + d.length)
theorem overL_parts (bs : List Nat) (k : Nat) (hk : k ≤ bs.length) (d : List Nat) (n : Nat) (hn : n = Nat.min d.length (bs.length - k)) : overL bs k d = (bs.take k ++ d.take n ++ bs.drop (k + n)) ++ d.drop n := by
  unfold overL
  by_cases h : d.length ≤ bs.length - k
  · have : n = d.length := by rw [hn]; exact Nat.min_eq_left h
    subst this
    simp
  · have h1 : n = bs.length - k := by rw [hn]; exact Nat.min_eq_right (by omega)
    have h2 : bs.drop (k + n) = [] := List.drop_of_length_le (by omega)
    have h3 : bs.drop (k + d.length) = [] := List.drop_of_length_le (by omega)
    rw [h2, h3]
    simp

/-- A string is copied into a buffer's bytes. -/
theorem Buf_copy {W : World} {base g len cap : Nat} {bs : List Nat} (h : Buf W base 5 (.slice (some ⟨g, 0, none⟩) len cap) bs) (k : Nat) (hk : k ≤ len) (s : ByteArray) (ty : TypeId) :
    ∃ W', (Builtin.copy_ #[29, 9] ty #[.slice (some ⟨g, k, none⟩) (len - k) (cap - k), .string s]).run Tryz.prog W = .ok (goInt (Nat.min s.size (len - k))) W' ∧ W.grownBy W' (some g) ∧ W'.heap.size = W.heap.size ∧
      Buf W' base 5 (.slice (some ⟨g, 0, none⟩) len cap) (bs.take k ++ (bytesS s).take (Nat.min s.size (len - k)) ++ bs.drop (k + Nat.min s.size (len - k))) ∧
      (∀ b2 v2 xs, Buf W b2 5 v2 xs → v2.ownBlock = some g → xs.length ≤ k → Buf W' b2 5 v2 xs) := by
  obtain ⟨i0, hi, hz0, hz1, hz2⟩ := info_parts info_u8d
  rcases h.2 with ⟨hv, _⟩ | ⟨g', cap', cur, hv, hb, hg, hn, hc, hm, ht⟩
  · cases hv
  · simp only [Value.slice.injEq, Option.some.injEq, Addr.mk.injEq, and_true] at hv
    obtain ⟨rfl, rfl, rfl⟩ := hv
    have HM := Lib.hid hm
    clear hm
    obtain ⟨n, hnn⟩ : ∃ n, Nat.min s.size (bs.length - k) = n := ⟨_, rfl⟩
    have hn1 : n ≤ s.size := by rw [← hnn]; exact Nat.min_le_left _ _
    have hn2 : n ≤ bs.length - k := by rw [← hnn]; exact Nat.min_le_right _ _
    have hr := run_copy_string (P := Tryz.prog) W 29 9 ty 5 g k (bs.length - k) (cap - k) s cur 5 Tryz.underlying29 (by rw [hi]; simp [hz1]) hg (by rw [hnn]; omega)
    rw [hnn] at hr ⊢
    have hg' := setRow_heap W g cur (cur.toList.take k ++ (strCells s).take n ++ cur.toList.drop (k + n)).toArray 5 (0, 0) hg
    have hl : ((strCells s).take n).length = n := by rw [List.length_take, strCells_length]; omega
    have hlt : (cur.toList.take k).length = k := by rw [List.length_take, Array.length_toList]; omega
    have hsz : (cur.toList.take k ++ (strCells s).take n ++ cur.toList.drop (k + n)).toArray.size = cur.size := by
      simp only [List.size_toArray, List.length_append, hl, hlt, List.length_drop, Array.length_toList]; omega
    have hlen : (bs.take k ++ (bytesS s).take n ++ bs.drop (k + n)).length = bs.length := by
      simp only [List.length_append, List.length_take, List.length_drop, bytesS_length]; omega
    refine ⟨_, hr, setRow_grown W g _, by simp, ⟨fun x hx => ?_, .inr ⟨g, cap, _, by rw [hlen], hb, hg', by rw [hlen]; exact hn, by rw [hsz]; exact hc, HM.out, ?_⟩⟩, fun b2 v2 xs hb2 he hle => ?_⟩
    · rcases List.mem_append.1 hx with hx | hx
      · rcases List.mem_append.1 hx with hx | hx
        · exact h.1 x (List.mem_of_mem_take hx)
        · exact bytesS_lt s x (List.mem_of_mem_take hx)
      · exact h.1 x (List.mem_of_mem_drop hx)
    · rw [hlen]
      show List.take bs.length (cur.toList.take k ++ (strCells s).take n ++ cur.toList.drop (k + n)) = _
      have e1 : cur.toList.take k = vals (bs.take k) := by
        have : (cur.toList.take bs.length).take k = cur.toList.take k := by rw [List.take_take, Nat.min_eq_left (by omega)]
        rw [← this, ht]; simp [vals, List.map_take]
      have e2 : (cur.toList.drop (k + n)).take (bs.length - (k + n)) = vals (bs.drop (k + n)) := by
        have : (cur.toList.take bs.length).drop (k + n) = (cur.toList.drop (k + n)).take (bs.length - (k + n)) := List.drop_take
        rw [← this, ht]; simp [vals, List.map_drop]
      have e3 : (strCells s).take n = vals ((bytesS s).take n) := by rw [strCells_vals]; simp [vals, List.map_take]
      have hpre : (cur.toList.take k ++ (strCells s).take n).length = k + n := by rw [List.length_append, hlt, hl]
      rw [List.take_append, List.take_of_length_le (by rw [hpre]; omega), hpre, e2, e1, e3, vals_append, vals_append]
    · refine hb2.front_kept hg hg' hsz he ?_ (hb2.own g he).1
      show List.take xs.length (cur.toList.take k ++ (strCells s).take n ++ cur.toList.drop (k + n)) = _
      rw [List.append_assoc, List.take_append_of_le_length (by rw [hlt]; exact hle), List.take_take, Nat.min_eq_left hle]

end Go.Proofs.YtnhkpemajknfnaaGreatDoor.Disk

/-
  The contract of disk's written.
-/
namespace Go.Proofs.YtnhkpemajknfnaaGreatDoor.Disk
open Go Go.RowKit Go.Lib Go.Proofs.YtnhkpemajknfnaaGreatDoor.Law

theorem wpList_sliced {P : Program} {ops : Array Oper} {rest : List Oper} {o : Oper} {a : Act} {w : World} {Q : Exit → Act → World → Prop} (hgd : Region.wanted o (yielded ops a.tmps) = true) (t : TypeId) (x : Operand) (lo hi mx : Option Operand)
    (ho : o.op = .slice t x lo hi mx) {xv v' : Value} {lov hiv mxv : Option Value} (hx : a.eval x = xv) (hlo : lo.map a.eval = lov) (hhi : hi.map a.eval = hiv) (hmx : mx.map a.eval = mxv)
    (hrun : (Instr.sliceAt t xv lov hiv mxv).run P w = .ok v' w) (h : wpList P ops Q rest (a.put o.dst v') w) : wpList P ops Q (o :: rest) a w := by
  refine wpList_step fun K hK => ?_
  rw [if_pos hgd]
  unfold Oper.wp execOp
  simp only [ho, hx, hlo, hhi, hmx, Sem.run_bind, Sem.run_pure, hrun, Result.andThen_ok]
  exact hK _ _ h

theorem size_byte (w : World) : (sizeOf (Tryz.prog.elem 29)).run Tryz.prog w = .ok 1 w := by
  have : Tryz.prog.elem 29 = 5 := by kernel_rfl
  rw [this]
  obtain ⟨i0, hi, _, hz1, _⟩ := info_parts info_u8d
  simp [sizeOf, typeInfo, hi, hz1]
theorem elem_bytes : Tryz.prog.underlying 29 = some (.slice (Tryz.prog.elem 29)) := by kernel_rfl
theorem run_from (A : Option Addr) (len cap k : Nat) (hk : k ≤ len) (w : World) : (Instr.sliceAt 29 (.slice A len cap) (some (.int .i64 (k : Nat))) none none).run Tryz.prog w = .ok (sliced A k len cap 1) w := by
  rw [run_sliceAt_slice (P := Tryz.prog) (w := w) _ _ _ _ _ elem_bytes, run_slice_l (P := Tryz.prog) (w := w) 29 A len cap elem_bytes .i64 (k : Nat) (by omega) (by omega), size_byte, Result.andThen_ok]
  simp

/-- What copy leaves of a buffer. -/
theorem copied_in {W : World} {base : Nat} {v : Value} {bs : List Nat} (h : Buf W base 5 v bs) (k : Nat) (hk : k ≤ bs.length) (s : ByteArray) (hlen : bs.length ≤ 140737488355328) :
    ∃ SA sl sc W', (∀ w, (Instr.sliceAt 29 v (some (.int .i64 (k : Nat))) none none).run Tryz.prog w = .ok (.slice SA sl sc) w) ∧ (Builtin.copy_ #[29, 9] 3 #[.slice SA sl sc, .string s]).run Tryz.prog W = .ok (.int .i64 ((Nat.min s.size (bs.length - k) : Nat) : Int)) W' ∧
      W.grownBy W' v.ownBlock ∧ W'.heap.size = W.heap.size ∧ Buf W' base 5 v (bs.take k ++ (bytesS s).take (Nat.min s.size (bs.length - k)) ++ bs.drop (k + Nat.min s.size (bs.length - k))) ∧
      (∀ b2 v2 xs, Buf W b2 5 v2 xs → v2.ownBlock = v.ownBlock → xs.length ≤ k → Buf W' b2 5 v2 xs) ∧ (k = bs.length → W' = W) := by
  obtain ⟨i0, hi, hz0, hz1, hz2⟩ := info_parts info_u8d
  obtain ⟨A, cap, rfl, hcap⟩ := h.form
  by_cases hlt : k < bs.length
  · rcases h.2 with ⟨_, h0⟩ | ⟨g, cap', cur, hv, _⟩
    · rw [h0] at hlt; simp at hlt
    · simp only [Value.slice.injEq] at hv
      obtain ⟨rfl, _, rfl⟩ := hv
      obtain ⟨W', hr, h1, h2, h3, h4⟩ := Buf_copy h k hk s 3
      refine ⟨some ⟨g, k, none⟩, bs.length - k, cap - k, W', fun w => ?_, ?_, h1, h2, h3, h4, fun e => by omega⟩
      · rw [run_from _ _ _ _ hk]
        unfold sliced
        rw [if_neg (by omega)]
        simp [Addr.add_lit]
      · rw [hr]
        have : Nat.min s.size (bs.length - k) ≤ 140737488355328 := Nat.le_trans (Nat.min_le_right _ _) (by omega)
        simp [goInt]
  · obtain rfl : k = bs.length := by omega
    have hn : Nat.min s.size (bs.length - bs.length) = 0 := by rw [Nat.sub_self]; exact Nat.min_zero _
    have hsl : ∃ SA sc, sliced A bs.length bs.length cap 1 = .slice SA 0 sc := ⟨if cap = bs.length then A else A.map (·.add (bs.length * 1)), cap - bs.length, by simp [sliced]⟩
    obtain ⟨SA, sc, hsl⟩ := hsl
    refine ⟨SA, 0, sc, W, fun w => by rw [run_from _ _ _ _ hk, hsl], ?_, ⟨rfl, rfl, rfl, Nat.le_refl _, fun _ _ _ => rfl⟩, rfl, ?_, fun _ _ _ h _ _ => h, fun _ => rfl⟩
    · rw [run_copy_nowhere (P := Tryz.prog) W 29 9 3 5 SA sc s Tryz.underlying29 (by rw [hi]; simp [hz1]), hn]
      simp [goInt]
    · rw [hn]
      simpa using h

/-- What written leaves. -/
def Written (w : World) (base : Nat) (v : Value) (bs : List Nat) (k : Nat) (s : ByteArray) (e : Ending) (W : World) : Prop :=
  ∃ v', e = .returned (contentV true v') ∧ Buf W base 5 v' (overL bs k (bytesS s)) ∧ w.grownBy W v.ownBlock ∧ (v'.ownBlock = v.ownBlock ∨ ∃ g, v'.ownBlock = some g ∧ w.heap.size ≤ g) ∧
    (∀ b2 v2 xs, Buf w b2 5 v2 xs → v2.ownBlock = v.ownBlock → xs.length ≤ k → Buf W b2 5 v2 xs) ∧
    (k = bs.length → (∃ A, v = .slice A bs.length bs.length) → (∀ j, j < w.heap.size → W.heap[j]? = w.heap[j]?) ∧ ((∃ g, v'.ownBlock = some g ∧ w.heap.size ≤ g) ∨ ∃ A n, v' = .slice A n n))

theorem bytesS_extract (s : ByteArray) (n : Nat) : bytesS (s.extract n s.size) = (bytesS s).drop n ∧ (s.extract n s.size).size = s.size - n := by
  have h2 : (s.extract n s.size).size = s.size - n := by simp
  refine ⟨?_, h2⟩
  have h3 : s.data.toList.extract n s.size = s.data.toList.drop n := by
    rw [List.extract_eq_take_drop]
    refine List.take_of_length_le ?_
    rw [List.length_drop, Array.length_toList]
    exact Nat.le_refl _
  unfold bytesS
  rw [ByteArray.data_extract, Array.toList_extract, h3, List.map_drop]

set_option maxRecDepth 100000 in
set_option maxHeartbeats 4000000 in
theorem written_calls (there : Bool) (v : Value) (bs : List Nat) (k : Nat) (hk : k ≤ bs.length) (s : ByteArray) (hroom : bs.length + s.size ≤ 140737488351232) (base : Nat) (w : World) (h : Buf w base 5 v bs) (hbase : base ≤ w.heap.size) :
    Calls Tryz.prog 56 #[contentV there v, .int .i64 (k : Nat), .string s] w (Written w base v bs k s) := by
  obtain ⟨i0, hi, hz0, hz1, hz2⟩ := info_parts info_u8d
  obtain ⟨A, cap, rfl, _⟩ := h.form
  have hown := h.own
  have hB1 : Below w.heap.size w ((w.alloc (.cells #[.bool there, .slice A bs.length cap] 65)).alloc (.cells #[.bool false, .slice none 0 0] 65)) := ((Below.refl _ _).alloc (Nat.le_refl _) _).alloc (by simp) _
  have hx0 : ((w.alloc (.cells #[.bool there, .slice A bs.length cap] 65)).alloc (.cells #[.bool false, .slice none 0 0] 65)).heap[w.heap.size]? = some (.cells #[.bool there, .slice A bs.length cap] 65) := (Below.heap_alloc _ _ _ (by simp)).trans (heap_alloc_new w _)
  have hx1 : ((w.alloc (.cells #[.bool there, .slice A bs.length cap] 65)).alloc (.cells #[.bool false, .slice none 0 0] 65)).heap[w.heap.size + 1]? = some (.cells #[.bool false, .slice none 0 0] 65) := by
    have := heap_alloc_new (w.alloc (.cells #[.bool there, .slice A bs.length cap] 65)) (.cells #[.bool false, .slice none 0 0] 65)
    rw [World.size_alloc] at this
    exact this
  have hsz1 : ((w.alloc (.cells #[.bool there, .slice A bs.length cap] 65)).alloc (.cells #[.bool false, .slice none 0 0] 65)).heap.size = w.heap.size + 2 := by simp
  obtain ⟨SA, sl, sc, W2, hslice, hcopy, hG2, hS2, hBf2, hf2, hsame2⟩ := copied_in (h.below hB1) k hk s (by omega)
  obtain ⟨n, hn⟩ : ∃ n, Nat.min s.size (bs.length - k) = n := ⟨_, rfl⟩
  have hns : n ≤ s.size := by rw [← hn]; exact Nat.min_le_left _ _
  rw [hn] at hcopy hBf2
  have hex := bytesS_extract s n
  have hl1 : (bs.take k ++ (bytesS s).take n ++ bs.drop (k + n)).length = bs.length := by
    have : n ≤ bs.length - k := by rw [← hn]; exact Nat.min_le_right _ _
    simp only [List.length_append, List.length_take, List.length_drop, bytesS_length]; omega
  have hBf3 : Buf W2.drew base 5 (.slice A bs.length cap) (bs.take k ++ (bytesS s).take n ++ bs.drop (k + n)) := hBf2
  obtain ⟨v', W3, happ, hBf4, hG3, hor, hf3, hfull⟩ := hBf3.append_string (P := Tryz.prog) (u := 9) 29 Tryz.underlying29 Tryz.underlying9 hi hz0 hz1 hz2 (s.extract n s.size) (by rw [hl1, hex.2]; omega) (by show base ≤ W2.heap.size; omega)
  rw [hex.1] at hBf4
  have hover := overL_parts bs k hk (bytesS s) n (by rw [bytesS_length]; exact hn.symm)
  rw [← hover] at hBf4
  have hblk : ∀ j, w.heap.size ≤ j → j < w.heap.size + 2 → W3.heap[j]? = ((w.alloc (.cells #[.bool there, .slice A bs.length cap] 65)).alloc (.cells #[.bool false, .slice none 0 0] 65)).heap[j]? := fun j hj1 hj2 => by
    have hne : some j ≠ (Value.slice A bs.length cap).ownBlock := fun e => by have := (hown j e.symm).2; omega
    exact (hG3.block j (by show j < W2.heap.size; omega) hne).trans (hG2.block j (by omega) hne)
  have c0 := two2 ((hG2.block w.heap.size (by omega) (fun e => by have := (hown _ e.symm).2; omega)).trans hx0)
  have c1 := two2 ((hG2.block (w.heap.size + 1) (by omega) (fun e => by have := (hown _ e.symm).2; omega)).trans hx1)
  have d1 := two2 ((hblk (w.heap.size + 1) (by omega) (by omega)).trans hx1)
  obtain ⟨A', cap', hv', _⟩ := hBf4.form
  have hs3 : w.heap.size + 2 ≤ W3.heap.size := by
    have h1 : W2.heap.size ≤ W3.heap.size := hG3.size
    omega
  have hvne : ∀ g, v'.ownBlock = some g → g ≠ w.heap.size + 1 := fun g hg e => by
    rcases hor with h1 | h1
    · have := (hown g (by rw [← h1]; exact hg)).2; omega
    · rw [h1] at hg
      have h2 : W2.heap.size = g := by simpa using hg
      omega
  have hfin : Written w base (.slice A bs.length cap) bs k s (.returned (contentV true v')) ((W3.setCell ⟨w.heap.size + 1, 0, none⟩ (.bool true)).setCell ⟨w.heap.size + 1, 1, none⟩ v') := by
    have hset : ∀ j, j ≠ w.heap.size + 1 → ((W3.setCell ⟨w.heap.size + 1, 0, none⟩ (.bool true)).setCell ⟨w.heap.size + 1, 1, none⟩ v').heap[j]? = W3.heap[j]? := fun j hj => by
      rw [Below.heap_setCell _ _ _ _ hj, Below.heap_setCell _ _ _ _ hj]
    refine ⟨v', rfl, hBf4.keep (fun g hg => hset g (hvne g hg)), ?_, ?_, ?_, ?_⟩
    · have g1 : w.grownBy W3 (Value.slice A bs.length cap).ownBlock := ⟨hG3.os.trans (hG2.os.trans hB1.os), hG3.tape.trans (hG2.tape.trans hB1.tape), hG3.output.trans (hG2.output.trans hB1.output), by omega, fun j hj hne => (hG3.block j (by show j < W2.heap.size; omega) hne).trans ((hG2.block j (by omega) hne).trans (hB1.block j hj))⟩
      exact ⟨g1.os, g1.tape, g1.output, by simp only [World.setCell, Array.size_modify]; exact g1.size, fun j hj hne => (hset j (by omega)).trans (g1.block j hj hne)⟩
    · rcases hor with h1 | h1
      · exact .inl h1
      · exact .inr ⟨_, h1, by show w.heap.size ≤ W2.heap.size; omega⟩
    · intro b2 v2 xs hb he hle
      have e1 := hb.below hB1
      have e2 := hf2 b2 v2 xs e1 he hle
      have e3 := hf3 b2 v2 xs e2 he (by rw [hl1]; omega)
      exact e3.keep (fun g hg => hset g (by have := (hb.own g hg).2; omega))
    · intro hkl hA
      have e4 := hfull (by rw [hl1]; exact hA)
      refine ⟨fun j hj => ?_, e4.2.elim (fun e => .inl ⟨_, e, by show w.heap.size ≤ W2.heap.size; omega⟩) .inr⟩
      have e2 := hsame2 hkl
      have e3 := e4.1 j (by show j < W2.heap.size; omega)
      rw [hset j (by omega), e3, show W2.drew.heap[j]? = W2.heap[j]? from rfl, e2]
      exact hB1.block j hj
  have HFIN := Lib.hid hfin
  subst hv'
  obtain ⟨q0, q1, q2, q3⟩ := c0
  obtain ⟨r0, r1, r2, r3⟩ := c1
  obtain ⟨y0, y1, y2, y3⟩ := d1
  have HS := Lib.hid hslice
  have HC := Lib.hid hcopy
  have HA := Lib.hid happ
  have hnI : (n : Int) ≤ (s.size : Int) := by omega
  obtain ⟨lf, hlf⟩ : ∃ lf, (overL bs k (bytesS s)).length = lf := ⟨_, rfl⟩
  rw [hlf] at HA HFIN
  obtain ⟨lb, hlb⟩ : ∃ lb, bs.length = lb := ⟨_, rfl⟩
  rw [hlb] at HS HC HA HFIN q1 ⊢
  clear hslice hcopy happ hfin hblk hor hf2 hf3 hfull hG2 hG3 hBf2 hBf3 hBf4 hover hex hl1 hown h hn hx0 hx1 hB1 hsz1 hsame2 hvne hlf hlb hroom hk
  go_enter Tryz.func56, Tryz.ntmps56
  go_wp2_with (first
    | (refine wpList_sliced (o := ⟨some 11, _, _, _, _, _⟩) rfl _ _ _ _ _ rfl rfl rfl rfl rfl (HS.out _) ?_)
    | (refine wpList_copy_ran (o := ⟨some 13, _, _, _, _, _⟩) rfl _ _ _ _ rfl rfl rfl HC.out ?_))
  go_region_law (refine step_append_ran2 rfl _ _ _ _ rfl rfl rfl HA.out ?_)
  all_goals
    go_wp2_with fail
    refine bodyPost_ret (v := contentV true (.slice A' lf cap')) (by simp [results, Tryz.results56, go_sem, y0, y1]) rfl ?_
    exact HFIN.out

end Go.Proofs.YtnhkpemajknfnaaGreatDoor.Disk

/-
  Contract of file's write.
-/
namespace Go.Proofs.YtnhkpemajknfnaaGreatDoor.Disk
open Go Go.RowKit Go.Proofs.YtnhkpemajknfnaaGreatDoor.Law

/-- What now and durable may have in common. -/
def Share (sh : Bool) (nv sv : Value) (nl sl : Nat) : Prop := ∀ g, nv.ownBlock = some g → sv.ownBlock = some g → sh = true ∧ (sl ≤ nl ∨ ∃ A n, nv = .slice A n n)

/-- What file's write leaves. -/
def Wrote (w : World) (fb base : Nat) (st : Bool) (nv sv cv : Value) (nbs sbs : List Nat) (c : Chg) (e : Ending) (W : World) : Prop :=
  ∃ nv' sh', e = .returned (.tuple #[]) ∧ FB W fb true nv' st sv sh' cv ∧ Buf W base 5 nv' (overL nbs c.pos (bytesS c.s)) ∧ Buf W base 5 sv sbs ∧ Share sh' nv' sv (overL nbs c.pos (bytesS c.s)).length sbs.length ∧
    (∀ g, nv'.ownBlock = some g → nv.ownBlock = some g ∨ w.heap.size ≤ g) ∧
    w.os = W.os ∧ w.tape = W.tape ∧ w.output = W.output ∧ w.heap.size ≤ W.heap.size ∧ ∀ k, k < w.heap.size → k ≠ fb → nv.ownBlock ≠ some k → W.heap[k]? = w.heap[k]?

theorem buf_not_file {W : World} {fb base : Nat} {nt st sh : Bool} {nv sv cv v : Value} {bs : List Nat} (hf : FB W fb nt nv st sv sh cv) (h : Buf W base 5 v bs) : v.ownBlock ≠ some fb := fun e => by
  rcases h.2 with ⟨rfl, _⟩ | ⟨g, cap, cur, rfl, _, hg, _⟩
  · cases e
  · obtain rfl : g = fb := by simpa [Value.ownBlock] using e
    unfold FB at hf
    rw [hf] at hg
    have := Option.some.inj hg
    injection this with _ h2 _
    exact absurd h2 (by decide)

theorem wrote_done {w W0 W2 : World} {fb base : Nat} {nt st sh : Bool} {nv sv cv v' : Value} {nbs sbs : List Nat} {c : Chg}
    (hf : FB w fb nt nv st sv sh cv) (hn : Buf w base 5 nv nbs) (hs : Buf w base 5 sv sbs) (hshare : Share sh nv sv nbs.length sbs.length) (hg : sh = true → c.pos = nbs.length) (hk : c.pos ≤ nbs.length)
    (hB : Below w.heap.size w W0) (hv : Buf W2 base 5 v' (overL nbs c.pos (bytesS c.s))) (hgr : W0.grownBy W2 nv.ownBlock) (hor : v'.ownBlock = nv.ownBlock ∨ ∃ g, v'.ownBlock = some g ∧ W0.heap.size ≤ g)
    (hfr : ∀ b2 v2 xs, Buf W0 b2 5 v2 xs → v2.ownBlock = nv.ownBlock → xs.length ≤ c.pos → Buf W2 b2 5 v2 xs)
    (hfull : c.pos = nbs.length → (∃ A, nv = .slice A nbs.length nbs.length) → (∀ j, j < W0.heap.size → W2.heap[j]? = W0.heap[j]?) ∧ ((∃ g, v'.ownBlock = some g ∧ W0.heap.size ≤ g) ∨ ∃ A n, v' = .slice A n n)) :
    Wrote w fb base st nv sv cv nbs sbs c (.returned (.tuple #[])) ((W2.setCell ⟨fb, 0, none⟩ (.bool true)).setCell ⟨fb, 1, none⟩ v') := by
  have hfb := hf.lt
  have hsz := hB.size
  have hnf := buf_not_file hf hn
  have hsf := buf_not_file hf hs
  have hset : ∀ j, j ≠ fb → ((W2.setCell ⟨fb, 0, none⟩ (.bool true)).setCell ⟨fb, 1, none⟩ v').heap[j]? = W2.heap[j]? := fun j hj => by
    rw [Below.heap_setCell _ _ _ _ hj, Below.heap_setCell _ _ _ _ hj]
  have hfW : FB W2 fb nt nv st sv sh cv := ((hgr.block fb (by omega) (fun e => hnf e.symm)).trans (hB.block fb hfb)).trans hf
  have hkeepS : Buf W2 base 5 sv sbs := by
    have hs0 := hs.below hB
    by_cases he : sv.ownBlock = nv.ownBlock
    · cases hsv : sv.ownBlock with
      | none => exact hs0.keep fun g hg => by rw [hsv] at hg; cases hg
      | some g =>
        obtain ⟨hsh, hc⟩ := hshare g (he ▸ hsv) hsv
        have hpos := hg hsh
        rcases hc with hle | ⟨A, n, hA⟩
        · exact hfr base sv sbs hs0 he (by omega)
        · obtain ⟨A2, cap, hform, _⟩ := hn.form
          rw [hform] at hA
          simp only [Value.slice.injEq] at hA
          have := hfull hpos ⟨A2, by rw [hform]; congr 1; omega⟩
          exact hs0.keep fun g hg => this.1 g (by have := (hs0.own g hg).2; omega)
    · exact hs0.keep fun g hg => hgr.block g (hs0.own g hg).2 (fun e => he (hg.trans e))
  have hlen : nbs.length ≤ (overL nbs c.pos (bytesS c.s)).length := by
    unfold overL
    simp only [List.length_append, List.length_take, List.length_drop]
    omega
  have hvf : v'.ownBlock ≠ some fb := fun e => by
    rcases hor with h | ⟨g, h, h2⟩
    · exact hnf (h.symm.trans e)
    · rw [e] at h
      have : fb = g := by simpa using h
      omega
  refine ⟨v', sh, rfl, ?_, hv.keep (fun g hg => hset g (fun e => hvf (e ▸ hg))), hkeepS.keep (fun g hg => hset g (fun e => hsf (e ▸ hg))), ?_, ?_, ?_, ?_, ?_, ?_, ?_⟩
  · have h1 := block_set hfW 0 (.bool true)
    have h2 := block_set h1 1 v'
    exact h2.trans (by simp)
  · intro g h1 h2
    rcases hor with h | ⟨g2, h, h3⟩
    · obtain ⟨hsh, hc⟩ := hshare g (h ▸ h1) h2
      refine ⟨hsh, ?_⟩
      rcases hc with hle | ⟨A, n, hA⟩
      · exact .inl (by omega)
      · obtain ⟨A2, cap, hform, _⟩ := hn.form
        rw [hform] at hA
        simp only [Value.slice.injEq] at hA
        have := hfull (hg hsh) ⟨A2, by rw [hform]; congr 1; omega⟩
        rcases this.2 with ⟨g3, h4, h5⟩ | h4
        · rw [h1] at h4
          have := (hs.own g h2).2
          have : g = g3 := by simpa using h4
          omega
        · exact .inr h4
    · rw [h1] at h
      have := (hs.own g h2).2
      have : g = g2 := by simpa using h
      omega
  · intro g hgv
    rcases hor with h | ⟨g2, h, h2⟩
    · exact .inl (h.symm.trans hgv)
    · rw [hgv] at h
      have : g = g2 := by simpa using h
      exact .inr (by omega)
  · exact (hgr.os.trans hB.os).symm
  · exact (hgr.tape.trans hB.tape).symm
  · exact (hgr.output.trans hB.output).symm
  · have := hgr.size; simp only [World.setCell, Array.size_modify]; omega
  · intro k h1 h2 h3
    rw [hset k h2, hgr.block k (by omega) (fun e => h3 e.symm), hB.block k h1]

set_option maxRecDepth 100000 in
set_option maxHeartbeats 2000000 in
theorem write_plain (fb base : Nat) (nt st sh : Bool) (na sa ca : Option Addr) (nc sc cl cc : Nat) (nbs sbs : List Nat) (c : Chg) (w : World)
    (hf : FB w fb nt (.slice na nbs.length nc) st (.slice sa sbs.length sc) sh (.slice ca cl cc)) (hn : Buf w base 5 (.slice na nbs.length nc) nbs) (hs : Buf w base 5 (.slice sa sbs.length sc) sbs) (hbase : base ≤ w.heap.size)
    (hshare : Share sh (.slice na nbs.length nc) (.slice sa sbs.length sc) nbs.length sbs.length) (hk : c.pos ≤ nbs.length) (hroom : nbs.length + c.s.size ≤ 140737488351232) (hg : sh = true → c.pos = nbs.length) :
    Calls Tryz.prog 30 #[.pointer (some ⟨fb, 0, none⟩), chgV c] w (Wrote w fb base st (.slice na nbs.length nc) (.slice sa sbs.length sc) (.slice ca cl cc) nbs sbs c) := by
  have hfb := hf.lt
  obtain ⟨⟨f0, f1, f2, f3, f4, f5⟩, f6⟩ := hf.cells
  have f60 := f6 0
  have f61 := f6 1
  obtain ⟨nl, hnl⟩ : ∃ nl, nbs.length = nl := ⟨_, rfl⟩
  rw [hnl] at f1
  have CW : Hid (∀ W, Below w.heap.size w W → Calls Tryz.prog 56 #[contentV nt (.slice na nl nc), .int .i64 (c.pos : Nat), .string c.s] W (Written W base (.slice na nl nc) nbs c.pos c.s)) := Lib.hid fun W hB => by
    rw [← hnl]
    exact written_calls nt _ nbs c.pos hk c.s hroom base W (hn.below hB) (by have := hB.size; omega)
  have hlt : sh = true → decide (c.pos < nl) = false := fun h => by have := hg h; simp; omega
  have HD : Hid (∀ W0 W2 v', Below w.heap.size w W0 → Written W0 base (.slice na nl nc) nbs c.pos c.s (.returned (contentV true v')) W2 →
      (W2.cell? ⟨fb, 0, none⟩ = some (.bool nt) ∧ W2.cell? ⟨fb, 1, none⟩ = some (.slice na nl nc) ∧ W2.frozen? ⟨fb, 0, none⟩ = false ∧ W2.frozen? ⟨fb, 1, none⟩ = false ∧ ∃ A l k, v' = .slice A l k) ∧
      Wrote w fb base st (.slice na nl nc) (.slice sa sbs.length sc) (.slice ca cl cc) nbs sbs c (.returned (.tuple #[])) ((W2.setCell ⟨fb, 0, none⟩ (.bool true)).setCell ⟨fb, 1, none⟩ v')) := Lib.hid fun W0 W2 v' hB hW => by
    rw [← hnl] at hW ⊢
    obtain ⟨v2, he, hv, hgr, hor, hfr, hfull⟩ := hW
    obtain rfl : v' = v2 := by simpa [contentV] using he
    have hfW : FB W2 fb nt (.slice na nbs.length nc) st (.slice sa sbs.length sc) sh (.slice ca cl cc) := ((hgr.block fb (by have := hB.size; omega) (fun e => buf_not_file hf hn e.symm)).trans (hB.block fb hfb)).trans hf
    refine ⟨⟨hfW.cells.1.1, hfW.cells.1.2.1, hfW.cells.2 0, hfW.cells.2 1, ?_⟩, wrote_done hf hn hs hshare hg hk hB hv hgr hor hfr hfull⟩
    obtain ⟨A, cap, h, _⟩ := hv.form
    exact ⟨A, _, cap, h⟩
  have hBB : Hid (∀ o n, Below w.heap.size w ((w.alloc o).drewN n)) := Lib.hid fun o n => by
    have h := (Below.refl w.heap.size w).alloc (Nat.le_refl _) o
    exact ⟨h.os, h.tape, h.output, h.size, h.block⟩
  rw [hnl]
  clear hf hn hs hbase hshare hk hroom hg f6
  cases sh with
  | false =>
    clear hlt
    go_enter Tryz.func30, Tryz.ntmps30
    go_wp2_with fail
    go_quiet (fail)
    go_wp2_with fail
    go_region_with (go_at_call 56; ((with_reducible refine (CW.out _ (hBB.out _ _)).mono ?_); rintro e W2 ⟨v', rfl, hW⟩; obtain ⟨⟨q0, q1, q2, q3, A', l', k', rfl⟩, hD⟩ := HD.out _ W2 v' (hBB.out _ _) ⟨v', rfl, hW⟩; have HDD := Lib.hid hD; clear hD hW))
    all_goals
      go_wp2_with fail
      go_end0
      exact HDD.out
  | true =>
    have hl2 := hlt rfl
    clear hlt
    go_enter Tryz.func30, Tryz.ntmps30
    go_wp2_with fail
    go_quiet (fail)
    go_wp2_with fail
    go_region_with (go_at_call 56; ((with_reducible refine (CW.out _ (hBB.out _ _)).mono ?_); rintro e W2 ⟨v', rfl, hW⟩; obtain ⟨⟨q0, q1, q2, q3, A', l', k', rfl⟩, hD⟩ := HD.out _ W2 v' (hBB.out _ _) ⟨v', rfl, hW⟩; have HDD := Lib.hid hD; clear hD hW))
    all_goals
      go_wp2_with fail
      go_end0
      exact HDD.out

theorem write_facts {fb base : Nat} {nt st sh : Bool} {na sa ca : Option Addr} {nl nc sl sc cl cc : Nat} {nbs sbs : List Nat} {c : Chg} {w : World} (hnl : nbs.length = nl) (hsl : sbs.length = sl)
    (hf : FB w fb nt (.slice na nl nc) st (.slice sa sl sc) sh (.slice ca cl cc)) (hn : Buf w base 5 (.slice na nl nc) nbs) (hs : Buf w base 5 (.slice sa sl sc) sbs) (hbase : base ≤ w.heap.size)
    (hshare : Share sh (.slice na nl nc) (.slice sa sl sc) nl sl) (hk : c.pos ≤ nl) (hroom : nl + c.s.size ≤ 140737488351232) (hg : sh = true → c.pos = nl) :
    (∀ W, Below w.heap.size w W → Calls Tryz.prog 56 #[contentV nt (.slice na nl nc), .int .i64 (c.pos : Nat), .string c.s] W (Written W base (.slice na nl nc) nbs c.pos c.s)) ∧
    (∀ W0 W2 v', Below w.heap.size w W0 → Written W0 base (.slice na nl nc) nbs c.pos c.s (.returned (contentV true v')) W2 →
      (W2.cell? ⟨fb, 0, none⟩ = some (.bool nt) ∧ W2.cell? ⟨fb, 1, none⟩ = some (.slice na nl nc) ∧ W2.frozen? ⟨fb, 0, none⟩ = false ∧ W2.frozen? ⟨fb, 1, none⟩ = false ∧ ∃ A l k, v' = .slice A l k) ∧
      Wrote w fb base st (.slice na nl nc) (.slice sa sl sc) (.slice ca cl cc) nbs sbs c (.returned (.tuple #[])) ((W2.setCell ⟨fb, 0, none⟩ (.bool true)).setCell ⟨fb, 1, none⟩ v')) := by
  subst hnl hsl
  have hfb := hf.lt
  refine ⟨fun W hB => written_calls nt _ nbs c.pos hk c.s hroom base W (hn.below hB) (by have := hB.size; omega), fun W0 W2 v' hB hW => ?_⟩
  obtain ⟨v2, he, hv, hgr, hor, hfr, hfull⟩ := hW
  obtain rfl : v' = v2 := by simpa [contentV] using he
  have hfW : FB W2 fb nt (.slice na nbs.length nc) st (.slice sa sbs.length sc) sh (.slice ca cl cc) := ((hgr.block fb (by have := hB.size; omega) (fun e => buf_not_file hf hn e.symm)).trans (hB.block fb hfb)).trans hf
  refine ⟨⟨hfW.cells.1.1, hfW.cells.1.2.1, hfW.cells.2 0, hfW.cells.2 1, ?_⟩, wrote_done hf hn hs hshare hg hk hB hv hgr hor hfr hfull⟩
  obtain ⟨A, cap, h, _⟩ := hv.form
  exact ⟨A, _, cap, h⟩

/-- The file behind its copying. -/
abbrev owned (W : World) (fb : Nat) (nt : Bool) (v1 : Value) : World := ((W.setCell ⟨fb, 0, none⟩ (.bool nt)).setCell ⟨fb, 1, none⟩ v1).setCell ⟨fb, 4, none⟩ (.bool false)

theorem copy_facts {fb base : Nat} {nt st sh : Bool} {nv sv cv : Value} {nbs sbs : List Nat} {c : Chg} {w : World}
    (hf : FB w fb nt nv st sv sh cv) (_hn : Buf w base 5 nv nbs) (hs : Buf w base 5 sv sbs) (hbase : base ≤ w.heap.size) {W0 W : World} {v1 : Value} (hB : Below w.heap.size w W0) (hC : Copied W0 nt nbs (.returned (contentV nt v1)) W) :
    FB W fb nt nv st sv sh cv ∧ FB (owned W fb nt v1) fb nt v1 st sv false cv ∧ Buf (owned W fb nt v1) base 5 v1 nbs ∧ Buf (owned W fb nt v1) base 5 sv sbs ∧ base ≤ (owned W fb nt v1).heap.size ∧ (∀ nl sl, Share false v1 sv nl sl) ∧
      ∀ e W', Wrote (owned W fb nt v1) fb base st v1 sv cv nbs sbs c e W' → Wrote w fb base st nv sv cv nbs sbs c e W' := by
  obtain ⟨v2, he, hO, hB2⟩ := hC
  obtain rfl : v1 = v2 := by simpa [contentV] using he
  have hfb := hf.lt
  have hs0 := hB.size
  have hBW : Below w.heap.size w W := hB.trans (hB2.mono hs0)
  have hfW := hf.below hBW
  have hset : ∀ j, j ≠ fb → (owned W fb nt v1).heap[j]? = W.heap[j]? := fun j hj => by
    unfold owned
    rw [Below.heap_setCell _ _ _ _ hj, Below.heap_setCell _ _ _ _ hj, Below.heap_setCell _ _ _ _ hj]
  have hsz : (owned W fb nt v1).heap.size = W.heap.size := by simp [owned, World.setCell]
  have hbuf := Buf.of_own hO
  have hv1 := hbuf.own
  refine ⟨hfW, ?_, (hbuf.lower (by omega)).keep (fun g hg => hset g (by have := (hv1 g hg).1; omega)), (hs.below hBW).keep (fun g hg => hset g (fun e => buf_not_file hf hs (e ▸ hg))), by rw [hsz]; have := hBW.size; omega, fun nl sl g h1 h2 => by
    have := (hv1 g h1).1
    have := (hs.own g h2).2
    omega, ?_⟩
  · have h1 := block_set hfW 0 (.bool nt)
    have h2 := block_set h1 1 v1
    have h3 := block_set h2 4 (.bool false)
    exact h3.trans (by simp)
  · rintro e W' ⟨nv', sh', r1, r2, r3, r4, r5, r6, r7, r8, r9, r10, r11⟩
    have hsW := hBW.size
    refine ⟨nv', sh', r1, r2, r3, r4, r5, fun g hg => .inr ?_, hBW.os.symm.trans r7, hBW.tape.symm.trans r8, hBW.output.symm.trans r9, by rw [hsz] at r10; omega, fun k hk h2 h3 => ?_⟩
    · rcases r6 g hg with h | h
      · have := (hv1 g h).1; omega
      · rw [hsz] at h; omega
    · rw [r11 k (by rw [hsz]; omega) h2 (fun e => by have := (hv1 k e).1; omega), hset k h2, hBW.block k hk]

set_option maxRecDepth 100000 in
set_option maxHeartbeats 2000000 in
theorem write_copy (fb base : Nat) (nt st : Bool) (na sa ca : Option Addr) (nc sc cl cc : Nat) (nbs sbs : List Nat) (c : Chg) (w : World)
    (hf : FB w fb nt (.slice na nbs.length nc) st (.slice sa sbs.length sc) true (.slice ca cl cc)) (hn : Buf w base 5 (.slice na nbs.length nc) nbs) (hs : Buf w base 5 (.slice sa sbs.length sc) sbs) (hbase : base ≤ w.heap.size)
    (hk : c.pos < nbs.length) (hroom : nbs.length + c.s.size ≤ 140737488351232) :
    Calls Tryz.prog 30 #[.pointer (some ⟨fb, 0, none⟩), chgV c] w (Wrote w fb base st (.slice na nbs.length nc) (.slice sa sbs.length sc) (.slice ca cl cc) nbs sbs c) := by
  have hfb := hf.lt
  obtain ⟨⟨f0, f1, f2, f3, f4, f5⟩, f6⟩ := hf.cells
  obtain ⟨nl, hnl⟩ : ∃ nl, nbs.length = nl := ⟨_, rfl⟩
  have hBB : ∀ o n, Below w.heap.size w ((w.alloc o).drewN n) := fun o n => by
    have h := (Below.refl w.heap.size w).alloc (Nat.le_refl _) o
    exact ⟨h.os, h.tape, h.output, h.size, h.block⟩
  have CC : Hid (∀ n, Calls Tryz.prog 55 #[contentV nt (.slice na nl nc)] ((w.alloc (.cells #[.int .i64 (c.n : Nat), .int .i64 (c.kind : Nat), .int .i64 (c.pos : Nat), .string c.s] 73)).drewN n) fun e W => ∃ A k, e = .returned (contentV nt (.slice A nl k)) ∧
      (W.cell? ⟨fb, 0, none⟩ = some (.bool nt) ∧ W.cell? ⟨fb, 1, none⟩ = some (.slice na nl nc) ∧ W.cell? ⟨fb, 4, none⟩ = some (.bool true) ∧ W.frozen? ⟨fb, 0, none⟩ = false ∧ W.frozen? ⟨fb, 1, none⟩ = false ∧ W.frozen? ⟨fb, 4, none⟩ = false) ∧
      (W.cell? ⟨w.heap.size, 2, none⟩ = some (.int .i64 (c.pos : Nat)) ∧ W.cell? ⟨w.heap.size, 3, none⟩ = some (.string c.s)) ∧
      Hid (Calls Tryz.prog 56 #[contentV nt (.slice A nl k), .int .i64 (c.pos : Nat), .string c.s] ((owned W fb nt (.slice A nl k)).drew) fun e W2 => ∃ A' l' k', e = .returned (contentV true (.slice A' l' k')) ∧
        (W2.cell? ⟨fb, 0, none⟩ = some (.bool nt) ∧ W2.cell? ⟨fb, 1, none⟩ = some (.slice A nl k) ∧ W2.frozen? ⟨fb, 0, none⟩ = false ∧ W2.frozen? ⟨fb, 1, none⟩ = false) ∧
        Hid (Wrote w fb base st (.slice na nl nc) (.slice sa sbs.length sc) (.slice ca cl cc) nbs sbs c (.returned (.tuple #[])) ((W2.setCell ⟨fb, 0, none⟩ (.bool true)).setCell ⟨fb, 1, none⟩ (.slice A' l' k'))))) := Lib.hid fun n => by
    rw [← hnl]
    refine (copied_calls nt _ nbs (by omega) _ (Buf.bytes (hn.below (hBB _ n)))).mono ?_
    rintro e W hC
    obtain ⟨v1, rfl, hO, hB2⟩ := id hC
    obtain ⟨A, k, hv1, _⟩ := (Buf.of_own hO).form
    subst hv1
    obtain ⟨g1, g2, g3, g4, g5, g6, g7⟩ := copy_facts (c := c) hf hn hs hbase (hBB _ n) hC
    obtain ⟨k1, k2⟩ := write_facts (c := c) rfl rfl g2 g3 g4 g5 (g6 _ _) (Nat.le_of_lt hk) hroom (fun h => by cases h)
    refine ⟨A, k, rfl, ⟨g1.cells.1.1, g1.cells.1.2.1, g1.cells.1.2.2.2.2.1, g1.cells.2 0, g1.cells.2 1, g1.cells.2 4⟩, ?_, Lib.hid ?_⟩
    · have hbx : W.heap[w.heap.size]? = some (.cells #[.int .i64 (c.n : Nat), .int .i64 (c.kind : Nat), .int .i64 (c.pos : Nat), .string c.s] 73) := (hB2.block w.heap.size (by simp [World.drewN])).trans (heap_alloc_new w _)
      constructor <;> simp [World.cell?, hbx]
    have hB3 : Below (owned W fb nt (.slice A nbs.length k)).heap.size (owned W fb nt (.slice A nbs.length k)) ((owned W fb nt (.slice A nbs.length k)).drew) := by
      have h := Below.refl (owned W fb nt (.slice A nbs.length k)).heap.size (owned W fb nt (.slice A nbs.length k))
      exact ⟨h.os, h.tape, h.output, h.size, h.block⟩
    refine (k1 _ hB3).mono ?_
    rintro e W2 hW
    obtain ⟨v', rfl, _⟩ := id hW
    obtain ⟨⟨q0, q1, q2, q3, A', l', k', rfl⟩, hD⟩ := k2 _ _ _ hB3 hW
    exact ⟨A', l', k', rfl, ⟨q0, q1, q2, q3⟩, Lib.hid (g7 _ _ hD)⟩
  have hlt : decide (c.pos < nl) = true := by simp; omega
  have hnew : ¬ fb = w.heap.size := by omega
  have hnew2 : ¬ w.heap.size = fb := by omega
  rw [hnl] at f1 ⊢
  clear hf hn hs hbase hk hroom f6 hBB hnl
  go_enter Tryz.func30, Tryz.ntmps30
  go_wp2_with fail
  go_quiet (fail)
  go_wp2_with fail
  refine (CC.out _).mono ?_
  clear CC f0 f1 f2 f3 f4 f5
  rintro e W ⟨A, k, rfl, ⟨q0, q1, q2, q3, q4, q5⟩, ⟨q6, q7⟩, HW⟩
  go_wp2_with fail
  go_region_with (go_at_call 56; ((with_reducible refine HW.out.mono ?_); rintro e W2 ⟨A', l', k', rfl, ⟨r0, r1, r2, r3⟩, HD⟩; clear HW q0 q1 q2 q3 q4 q5 q6 q7))
  all_goals
    go_wp2_with fail
    go_end0
    exact HD.out

end Go.Proofs.YtnhkpemajknfnaaGreatDoor.Disk
