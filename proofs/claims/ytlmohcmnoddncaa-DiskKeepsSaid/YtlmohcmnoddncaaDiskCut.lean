/-
  Contracts of disk's cut and written.
-/
import Derived.Test.YtlmohcmnoddncaaDiskLeaf
namespace Go.Proofs.Ytlmohcmnoddncaa.Disk
open Go Go.RowKit Go.Lib Go.Proofs.Ytlmohcmnoddncaa.Law

/-- A content of the call's own. -/
def ContentOut (w : World) (base : Nat) (there : Bool) (bs : List Nat) (e : Ending) (W : World) : Prop := ∃ v', e = .returned (contentV there v') ∧ Buf W base 5 v' bs ∧ Below w.heap.size w W

/-- What cut leaves: the front of the same block. -/
def CutOut (w : World) (A : Option Addr) (k : Nat) (e : Ending) (W : World) : Prop := e = .returned (contentV true (.slice A k k)) ∧ Below w.heap.size w W

set_option maxRecDepth 100000 in
set_option maxHeartbeats 2000000 in
theorem cut_calls (there : Bool) (A : Option Addr) (len cap k : Nat) (hA : A = none → cap = 0) (hspot : ∀ a, A = some a → a.spot = none) (hk : k ≤ cap) (hcap : cap ≤ 9223372036854775807) (w : World) :
    Calls Try.prog 49 #[contentV there (.slice A len cap), .int .i64 (k : Nat)] w (CutOut w A k) := by
  cases A with
  | none =>
    have := hA rfl
    obtain rfl : k = 0 := by omega
    subst this
    clear hA hspot
    go_enter Try.func49, Try.ntmps49
    go_wp2
    refine bodyPost_ret (v := contentV true (.slice none 0 0)) (by simp [results, Try.results49, go_sem]) rfl ⟨rfl, ?_⟩
    exact ((Below.refl _ _).alloc (Nat.le_refl _) _).alloc (by simp) _
  | some a =>
    obtain ⟨b, o, sp⟩ := a
    have := hspot _ rfl
    simp only at this
    subst this
    have hkI : (k : Int) ≤ (cap : Int) := by omega
    clear hA hspot
    go_enter Try.func49, Try.ntmps49
    go_wp2
    refine bodyPost_ret (v := contentV true (.slice (some ⟨b, o, none⟩) k k)) (by simp [results, Try.results49, go_sem]) rfl ⟨rfl, ?_⟩
    exact ((Below.refl _ _).alloc (Nat.le_refl _) _).alloc (by simp) _

theorem step_append_ran2 {P : Program} {ops : Array Oper} {o : Oper} {a : Act} {w : World} {K : Act → World → Prop} {Q : Exit → Act → World → Prop} {E : Prop} (hgd : Region.wanted o (yielded ops a.tmps) = true) (s x : Operand) (t u : TypeId)
    (ho : o.op = .call { callee := .builtin .append, args := #[s, x], argTypes := #[t, u] }) {v sv v' : Value} {w' : World} (hs : a.eval s = v) (hx : a.eval x = sv)
    (hrun : (Builtin.append_ #[t, u] o.type #[v, sv]).run P w = .ok v' w') (h : K (a.put o.dst v') w') : if Region.wanted o (yielded ops a.tmps) = true then Oper.wp P o a w K Q else E := by
  rw [if_pos hgd]
  unfold Oper.wp execOp
  simp only [ho, resolve, invoke, builtin, Sem.run_bind, Sem.run_pure, Result.andThen_ok, List.map_toArray, List.map_cons, List.map_nil, hs, hx, hrun]
  exact h
theorem wpList_copy_ran {P : Program} {ops : Array Oper} {rest : List Oper} {o : Oper} {a : Act} {w : World} {Q : Exit → Act → World → Prop} (hgd : Region.wanted o (yielded ops a.tmps) = true) (s x : Operand) (t u : TypeId)
    (ho : o.op = .call { callee := .builtin .copy, args := #[s, x], argTypes := #[t, u] }) {v sv v' : Value} {w' : World} (hs : a.eval s = v) (hx : a.eval x = sv)
    (hrun : (Builtin.copy_ #[t, u] o.type #[v, sv]).run P w = .ok v' w') (h : wpList P ops Q rest (a.put o.dst v') w') : wpList P ops Q (o :: rest) a w := by
  refine wpList_step fun K hK => ?_
  rw [if_pos hgd]
  unfold Oper.wp execOp
  simp only [ho, resolve, invoke, builtin, Sem.run_bind, Sem.run_pure, Result.andThen_ok, List.map_toArray, List.map_cons, List.map_nil, hs, hx, hrun]
  exact hK _ _ h

/-- Bytes with others from a place on. -/
def overL (bs : List Nat) (k : Nat) (d : List Nat) : List Nat := bs.take k ++ d ++ bs.drop (k + d.length)
theorem overL_parts (bs : List Nat) (k : Nat) (hk : k ≤ bs.length) (d : List Nat) (n : Nat) (hn : n = Nat.min d.length (bs.length - k)) : overL bs k d = (bs.take k ++ d.take n ++ bs.drop (k + n)) ++ d.drop n := by
  unfold overL
  by_cases h : d.length ≤ bs.length - k
  · have : n = d.length := by rw [hn]; exact Nat.min_eq_left h
    subst this
    simp
  · have h1 : n = bs.length - k := by rw [hn]; exact Nat.min_eq_right (by omega)
    have h2 : bs.drop (k + n) = [] := List.drop_of_length_le (by omega)
    have h3 : bs.drop (k + d.length) = [] := List.drop_of_length_le (by omega)
    rw [h2, h3]
    simp

/-- A string is copied into a buffer's bytes. -/
theorem Buf_copy {W : World} {base g len cap : Nat} {bs : List Nat} (h : Buf W base 5 (.slice (some ⟨g, 0, none⟩) len cap) bs) (k : Nat) (hk : k ≤ len) (s : ByteArray) (ty : TypeId) :
    ∃ W', (Builtin.copy_ #[34, 9] ty #[.slice (some ⟨g, k, none⟩) (len - k) (cap - k), .string s]).run Try.prog W = .ok (goInt (Nat.min s.size (len - k))) W' ∧ W.grownBy W' (some g) ∧ W'.heap.size = W.heap.size ∧
      Buf W' base 5 (.slice (some ⟨g, 0, none⟩) len cap) (bs.take k ++ (bytesS s).take (Nat.min s.size (len - k)) ++ bs.drop (k + Nat.min s.size (len - k))) ∧
      (∀ b2 v2 xs, Buf W b2 5 v2 xs → v2.ownBlock = some g → xs.length ≤ k → Buf W' b2 5 v2 xs) := by
  obtain ⟨i0, hi, hz0, hz1, hz2⟩ := info_parts info_u8d
  rcases h.2 with ⟨hv, _⟩ | ⟨g', cap', cur, hv, hb, hg, hn, hc, hm, ht⟩
  · cases hv
  · simp only [Value.slice.injEq, Option.some.injEq, Addr.mk.injEq, and_true] at hv
    obtain ⟨rfl, rfl, rfl⟩ := hv
    have HM := Lib.hid hm
    clear hm
    obtain ⟨n, hnn⟩ : ∃ n, Nat.min s.size (bs.length - k) = n := ⟨_, rfl⟩
    have hn1 : n ≤ s.size := by rw [← hnn]; exact Nat.min_le_left _ _
    have hn2 : n ≤ bs.length - k := by rw [← hnn]; exact Nat.min_le_right _ _
    have hr := run_copy_string (P := Try.prog) W 34 9 ty 5 g k (bs.length - k) (cap - k) s cur 5 Try.underlying34 (by rw [hi]; simp [hz1]) hg (by rw [hnn]; omega)
    rw [hnn] at hr ⊢
    have hg' := setRow_heap W g cur (cur.toList.take k ++ (strCells s).take n ++ cur.toList.drop (k + n)).toArray 5 (0, 0) hg
    have hl : ((strCells s).take n).length = n := by rw [List.length_take, strCells_length]; omega
    have hlt : (cur.toList.take k).length = k := by rw [List.length_take, Array.length_toList]; omega
    have hsz : (cur.toList.take k ++ (strCells s).take n ++ cur.toList.drop (k + n)).toArray.size = cur.size := by
      simp only [List.size_toArray, List.length_append, hl, hlt, List.length_drop, Array.length_toList]; omega
    have hlen : (bs.take k ++ (bytesS s).take n ++ bs.drop (k + n)).length = bs.length := by
      simp only [List.length_append, List.length_take, List.length_drop, bytesS_length]; omega
    refine ⟨_, hr, setRow_grown W g _, by simp, ⟨fun x hx => ?_, .inr ⟨g, cap, _, by rw [hlen], hb, hg', by rw [hlen]; exact hn, by rw [hsz]; exact hc, HM.out, ?_⟩⟩, fun b2 v2 xs hb2 he hle => ?_⟩
    · rcases List.mem_append.1 hx with hx | hx
      · rcases List.mem_append.1 hx with hx | hx
        · exact h.1 x (List.mem_of_mem_take hx)
        · exact bytesS_lt s x (List.mem_of_mem_take hx)
      · exact h.1 x (List.mem_of_mem_drop hx)
    · rw [hlen]
      show List.take bs.length (cur.toList.take k ++ (strCells s).take n ++ cur.toList.drop (k + n)) = _
      have e1 : cur.toList.take k = vals (bs.take k) := by
        have : (cur.toList.take bs.length).take k = cur.toList.take k := by rw [List.take_take, Nat.min_eq_left (by omega)]
        rw [← this, ht]; simp [vals, List.map_take]
      have e2 : (cur.toList.drop (k + n)).take (bs.length - (k + n)) = vals (bs.drop (k + n)) := by
        have : (cur.toList.take bs.length).drop (k + n) = (cur.toList.drop (k + n)).take (bs.length - (k + n)) := List.drop_take
        rw [← this, ht]; simp [vals, List.map_drop]
      have e3 : (strCells s).take n = vals ((bytesS s).take n) := by rw [strCells_vals]; simp [vals, List.map_take]
      have hpre : (cur.toList.take k ++ (strCells s).take n).length = k + n := by rw [List.length_append, hlt, hl]
      rw [List.take_append, List.take_of_length_le (by rw [hpre]; omega), hpre, e2, e1, e3, vals_append, vals_append]
    · refine hb2.front_kept hg hg' hsz he ?_ (hb2.own g he).1
      show List.take xs.length (cur.toList.take k ++ (strCells s).take n ++ cur.toList.drop (k + n)) = _
      rw [List.append_assoc, List.take_append_of_le_length (by rw [hlt]; exact hle), List.take_take, Nat.min_eq_left hle]

end Go.Proofs.Ytlmohcmnoddncaa.Disk
