/-
  Put together out of texts of one chain: what they hold stands ahead of each.
-/
import Derived.Test.YtnjjjalenhbicaaGDiskStands05
import Derived.Test.YtnjjjalenhbicaaGDiskStands08
/-
  A store into a map and a delete out of one, whose runs are known, as steps of the walk. Of whatever program.
-/
namespace Go.Proofs.Ytnjjjalenhbicaa.Law
open Go Go.RowKit

theorem wpList_mapUpdate_ran {P : Program} {ops : Array Oper} {rest : List Oper} {o : Oper} {a : Act} {w w' : World} {Q : Exit → Act → World → Prop} (hgd : Region.wanted o (yielded ops a.tmps) = true) (t : TypeId) (m x v : Operand)
    (ho : o.op = .mapUpdate t m x v) {mv xv vv : Value} (hm : a.eval m = mv) (hx : a.eval x = xv) (hv : a.eval v = vv) (hrun : (Instr.mapUpdate t mv xv vv).run P w = .ok () w') (h : wpList P ops Q rest (a.put o.dst undef) w') : wpList P ops Q (o :: rest) a w := by
  refine wpList_step fun K hK => ?_
  rw [if_pos hgd]
  unfold Oper.wp
  simp [execOp, ho, hm, hx, hv, hrun, Result.andThen]
  exact hK _ _ h
theorem wpList_delete_ran {P : Program} {ops : Array Oper} {rest : List Oper} {o : Oper} {a : Act} {w w' : World} {Q : Exit → Act → World → Prop} (hgd : Region.wanted o (yielded ops a.tmps) = true) (s x : Operand) (t u : TypeId)
    (ho : o.op = .call { callee := .builtin .delete, args := #[s, x], argTypes := #[t, u] }) {v sv v' : Value} (hs : a.eval s = v) (hx : a.eval x = sv)
    (hrun : (Builtin.delete_ #[t, u] o.type #[v, sv]).run P w = .ok v' w') (h : wpList P ops Q rest (a.put o.dst v') w') : wpList P ops Q (o :: rest) a w := by
  refine wpList_step fun K hK => ?_
  rw [if_pos hgd]
  unfold Oper.wp execOp
  simp only [ho, resolve, invoke, builtin, Sem.run_bind, Sem.run_pure, Result.andThen_ok, List.map_toArray, List.map_cons, List.map_nil, hs, hx, hrun]
  exact hK _ _ h
theorem wpList_range_ran {P : Program} {ops : Array Oper} {rest : List Oper} {o : Oper} {a : Act} {w w' : World} {Q : Exit → Act → World → Prop} (hgd : Region.wanted o (yielded ops a.tmps) = true) (t : TypeId) (m : Operand)
    (ho : o.op = .range t m) {mv v : Value} (hm : a.eval m = mv) (hrun : (Instr.range t mv).run P w = .ok v w') (h : wpList P ops Q rest (a.put o.dst v) w') : wpList P ops Q (o :: rest) a w := by
  refine wpList_exec_ran hgd (v := v) (w' := w') ?_ h
  unfold execOp
  simp only [ho, hm, Sem.run_bind, Sem.run_pure, hrun, Result.andThen_ok]
theorem wpList_next_ran {P : Program} {ops : Array Oper} {rest : List Oper} {o : Oper} {a : Act} {w w' : World} {Q : Exit → Act → World → Prop} (hgd : Region.wanted o (yielded ops a.tmps) = true) (m : Operand) (b : Bool)
    (ho : o.op = .next m b) {mv v : Value} (hm : a.eval m = mv) (hrun : (Instr.next mv b o.type).run P w = .ok v w') (h : wpList P ops Q rest (a.put o.dst v) w') : wpList P ops Q (o :: rest) a w := by
  refine wpList_exec_ran hgd (v := v) (w' := w') ?_ h
  unfold execOp
  simp only [ho, hm, Sem.run_bind, Sem.run_pure, hrun, Result.andThen_ok]
theorem wpList_entry_ran {P : Program} {ops : Array Oper} {rest : List Oper} {o : Oper} {a : Act} {w w' : World} {Q : Exit → Act → World → Prop} (hgd : Region.wanted o (yielded ops a.tmps) = true) (m : Operand)
    (ho : o.op = .entry m) {mv v : Value} (hm : a.eval m = mv) (hrun : (Instr.entry mv).run P w = .ok v w') (h : wpList P ops Q rest (a.put o.dst v) w') : wpList P ops Q (o :: rest) a w := by
  refine wpList_exec_ran hgd (v := v) (w' := w') ?_ h
  unfold execOp
  simp only [ho, hm, Sem.run_bind, Sem.run_pure, hrun, Result.andThen_ok]

section
open Go.Maps Go.ChangeMaps Go.WideMaps
theorem beqBA (a b : ByteArray) : (a == b) = (a.data == b.data) := rfl
instance lawfulBA : LawfulBEq ByteArray where
  eq_of_beq {a b} h := by
    rw [beqBA] at h
    have := eq_of_beq h
    cases a; cases b
    simp only at this
    rw [this]
  rfl {a} := by rw [beqBA]; exact beq_self_eq_true _

/-- A range over a map under way: the names that are still to come. -/
def Rng (P : Program) (k : TypeId) (W : World) (b r n : Nat) (F : ByteArray → Option Nat) (rest : List ByteArray) (cnt : Nat) : Prop :=
  RangeP P k W b r n F (fun s => decide (s ∈ rest)) cnt ∧ rest.Nodup ∧ ∀ s ∈ rest, Short s

variable {P : Program} {k e t : TypeId} {W W' : World} {b r n cnt : Nat} {F : ByteArray → Option Nat} {rest : List ByteArray}
theorem RangeP.left (h : RangeP P k W b r n F (fun s => decide (s ∈ rest)) cnt) : W.rangeLeft b r = cnt := by
  obtain ⟨D, left, h, _⟩ := h
  exact h.left_eq
theorem RangeP.same {L L' : ByteArray → Bool} (h : RangeP P k W b r n F L cnt) (hL : ∀ s, Short s → L s = L' s) : RangeP P k W b r n F L' cnt := by
  obtain ⟨D, left, h1, h2, h3⟩ := h
  exact ⟨D, left, h1, h2, fun s hs => (h3 s hs).trans (hL s hs)⟩
theorem Rng.left (h : Rng P k W b r n F rest cnt) : W.rangeLeft b r = cnt := RangeP.left h.1
theorem Rng.map (h : Rng P k W b r n F rest cnt) : MapP P k W b n F := h.1.map
theorem Rng.kept {row : Option Nat} (h : Rng P k W b r n F rest cnt) (hg : W.grownBy W' row) (hb : some b ≠ row) (hr : some r ≠ row) : Rng P k W' b r n F rest cnt := ⟨h.1.kept hg hb hr, h.2⟩
theorem Rng.at (h : Rng P k W b r n F rest cnt) (hb : W'.heap[b]? = W.heap[b]?) (hr : W'.heap[r]? = W.heap[r]?) : Rng P k W' b r n F rest cnt := ⟨h.1.at hb hr, h.2⟩
theorem Rng.iterLt (h : Rng P k W b r n F rest cnt) : r < W.heap.size := by
  obtain ⟨⟨D, left, ⟨es, clock, since, seen, c0, h1, h2, h3, h4, h5, h6⟩, h7⟩, _⟩ := h
  exact (Array.getElem?_eq_some_iff.1 h5).1
theorem Rng.isIter (h : Rng P k W b r n F rest cnt) : ∃ a b c d, W.heap[r]? = some (.mapIter a b c d) := by
  obtain ⟨⟨D, left, ⟨es, clock, since, seen, c0, h1, h2, h3, h4, h5, h6⟩, h7⟩, _⟩ := h
  exact ⟨_, _, _, _, h5⟩
theorem MapP.isMap (h : MapP P k W b n F) : ∃ a c, W.heap[b]? = some (.map a c) := by
  obtain ⟨D, ⟨es, clock, h1, _⟩, _⟩ := h
  exact ⟨_, _, h1⟩

theorem MapP.rng (h : MapP P k W b n F) (hk : P.underlying k = some .string) (ht : P.underlying t = some (.map k e)) (names : List ByteArray) (hn : names.Nodup) (hs : ∀ s ∈ names, Short s) (hd : ∀ s, Short s → ((F s).isSome ↔ s ∈ names)) :
    ∃ w' cnt, (Instr.range t (.map (some b))).run P W = .ok (.pointer (some ⟨W.heap.size, 0, none⟩)) w' ∧ Rng P k w' b W.heap.size n F names cnt ∧ W.grownBy w' none ∧ w'.heap.size = W.heap.size + 1 := by
  obtain ⟨w', cnt, h1, h2, h3, h4⟩ := h.range hk ht
  refine ⟨w', cnt, h1, ⟨h2.same fun s hs' => ?_, hn, hs⟩, h3, h4⟩
  rw [Bool.eq_iff_iff]
  simpa using hd s hs'

theorem Rng.next (h : Rng P k W b r n F rest cnt) (hk : P.underlying k = some .string) (ty : TypeId) :
    (rest = [] ∧ (Instr.next (.pointer (some ⟨r, 0, none⟩)) false ty).run P W = .ok (.tuple #[.bool false]) W) ∨
    ∃ s g w' cnt', s ∈ rest ∧ F s = some g ∧ (Instr.next (.pointer (some ⟨r, 0, none⟩)) false ty).run P W = .ok (.tuple #[.bool true, .string s, .pointer (some ⟨g, 0, none⟩)]) w' ∧
      Rng P k w' b r n F (rest.erase s) cnt' ∧ cnt' < cnt ∧ W.grownBy w' (some r) ∧ w'.heap.size = W.heap.size ∧ (Instr.entry (.pointer (some ⟨r, 0, none⟩))).run P w' = .ok (.tuple #[.string s, .pointer (some ⟨g, 0, none⟩)]) w' := by
  obtain ⟨h, hn, hs⟩ := h
  rcases h.next hk ty with ⟨_, h1, h2⟩ | ⟨s, g, w', cnt', h1, h2, h3, h4, h5, h6, h7, h8, h9⟩
  · refine .inl ⟨?_, h2⟩
    cases rest with
    | nil => rfl
    | cons a l =>
      have := h1 a (hs a (by simp))
      simp at this
  · refine .inr ⟨s, g, w', cnt', by simpa using h2, h3, h4, ⟨h5.same fun x _ => ?_, hn.erase _, fun x hx => hs x (List.mem_of_mem_erase hx)⟩, h6, h7, h8, h9⟩
    rw [Bool.eq_iff_iff]
    simp only [Bool.and_eq_true, decide_eq_true_eq, Bool.not_eq_true', decide_eq_false_iff_not, hn.mem_erase_iff]
    exact and_comm

theorem Rng.drop (h : Rng P k W b r n F rest cnt) (hk : P.underlying k = some .string) (ht : P.underlying t = some (.map k e)) {s : ByteArray} (hs : Short s) (hout : s ∉ rest) (ty : TypeId) :
    ∃ w' cnt', (Builtin.delete_ #[t, k] ty #[.map (some b), .string s]).run P W = .ok (.tuple #[]) w' ∧ Rng P k w' b r n (fun x => if x = s then none else F x) rest cnt' ∧ cnt' ≤ cnt ∧ W.mapTurned w' b := by
  obtain ⟨h, hn, hsh⟩ := h
  obtain ⟨w', cnt', h1, h2, h3, h4⟩ := h.drop hk ht hs ty
  refine ⟨w', cnt', h1, ⟨h2.same fun x _ => ?_, hn, hsh⟩, h3, h4⟩
  rw [Bool.eq_iff_iff]
  simp only [Bool.and_eq_true, decide_eq_true_eq, Bool.not_eq_true', decide_eq_false_iff_not]
  exact ⟨fun h => h.1, fun h => ⟨h, fun e => hout (e ▸ h)⟩⟩
end

end Go.Proofs.Ytnjjjalenhbicaa.Law

/-
  The disk as plain data: what each call does to it.
-/
namespace Go.Proofs.Ytnjjjalenhbicaa.Disk
open Go Go.RowKit Go.Proofs.Ytnjjjalenhbicaa.Law

/-- A disk: the names that it knows, each one's bytes now and durable, and the changes that aren't durable, by their numbers. -/
structure DS where
  room : Nat
  used : Nat
  made : Nat
  fails : Bool
  names : List ByteArray
  now : ByteArray → Option (List Nat)
  safe : ByteArray → Option (List Nat)
  chs : List (ByteArray × Chg)

def szO : Option (List Nat) → Nat
  | none => 0
  | some b => b.length
theorem szO_getD (o : Option (List Nat)) : (o.getD []).length = szO o := by cases o <;> rfl
def upd (f : ByteArray → Option (List Nat)) (s : ByteArray) (v : Option (List Nat)) : ByteArray → Option (List Nat) := fun x => if x = s then v else f x
theorem upd_same (f : ByteArray → Option (List Nat)) (s : ByteArray) (v : Option (List Nat)) : upd f s v s = v := if_pos rfl
theorem upd_other (f : ByteArray → Option (List Nat)) {s x : ByteArray} (v : Option (List Nat)) (h : x ≠ s) : upd f s v x = f x := if_neg h
def total (names : List ByteArray) (f : ByteArray → Option (List Nat)) : Nat := (names.map fun s => szO (f s)).sum
/-- A file's own changes. -/
def mine (s : ByteArray) (l : List (ByteArray × Chg)) : List Chg := (l.filter fun x => decide (x.1 = s)).map (·.2)
/-- The changes of the others. -/
def others (s : ByteArray) (l : List (ByteArray × Chg)) : List (ByteArray × Chg) := l.filter fun x => !decide (x.1 = s)

theorem total_out (f : ByteArray → Option (List Nat)) (s : ByteArray) (v : Option (List Nat)) : ∀ names : List ByteArray, s ∉ names → total names (upd f s v) = total names f
  | [], _ => rfl
  | a :: l, h => by
    have h1 : a ≠ s := fun e => h (by simp [e])
    have h2 : s ∉ l := fun e => h (List.mem_cons_of_mem _ e)
    have := total_out f s v l h2
    unfold total at this ⊢
    rw [List.map_cons, List.map_cons, List.sum_cons, List.sum_cons, this, upd_other f v h1]
theorem total_in (f : ByteArray → Option (List Nat)) (s : ByteArray) (v : Option (List Nat)) : ∀ names : List ByteArray, names.Nodup → s ∈ names → total names (upd f s v) + szO (f s) = total names f + szO v
  | [], _, h => by simp at h
  | a :: l, hn, h => by
    rw [List.nodup_cons] at hn
    unfold total
    rw [List.map_cons, List.map_cons, List.sum_cons, List.sum_cons]
    by_cases ha : a = s
    · subst ha
      have := total_out f a v l hn.1
      unfold total at this
      rw [this, upd_same]; omega
    · have h2 : s ∈ l := by rcases List.mem_cons.1 h with e | e
                            · exact absurd e.symm ha
                            · exact e
      have := total_in f s v l hn.2 h2
      unfold total at this
      rw [upd_other f v ha]; omega
theorem total_ge (f : ByteArray → Option (List Nat)) (s : ByteArray) : ∀ names : List ByteArray, s ∈ names → szO (f s) ≤ total names f
  | [], h => by simp at h
  | a :: l, h => by
    unfold total
    rw [List.map_cons, List.sum_cons]
    rcases List.mem_cons.1 h with rfl | h
    · omega
    · have := total_ge f s l h
      unfold total at this; omega
theorem total_append (f : ByteArray → Option (List Nat)) (a b : List ByteArray) : total (a ++ b) f = total a f + total b f := by
  unfold total; rw [List.map_append, List.sum_append]
theorem total_perm (f : ByteArray → Option (List Nat)) {a b : List ByteArray} (h : a.Perm b) : total a f = total b f := by
  unfold total; exact (h.map _).sum_nat
theorem total_le (f : ByteArray → Option (List Nat)) (k : Nat) (hf : ∀ s b, f s = some b → b.length ≤ k) : ∀ names : List ByteArray, total names f ≤ names.length * k
  | [] => by simp [total]
  | a :: l => by
    have := total_le f k hf l
    unfold total at this ⊢
    rw [List.map_cons, List.sum_cons, List.length_cons, Nat.add_mul]
    have h1 : szO (f a) ≤ k := by
      cases h : f a with
      | none => exact Nat.zero_le _
      | some b => exact hf a b h
    omega
theorem total_congr (f g : ByteArray → Option (List Nat)) : ∀ names : List ByteArray, (∀ s ∈ names, f s = g s) → total names f = total names g
  | [], _ => rfl
  | a :: l, h => by
    have := total_congr f g l (fun s hs => h s (List.mem_cons_of_mem _ hs))
    unfold total at this ⊢
    rw [List.map_cons, List.map_cons, List.sum_cons, List.sum_cons, this, h a (by simp)]

theorem mine_append (s : ByteArray) (a b : List (ByteArray × Chg)) : mine s (a ++ b) = mine s a ++ mine s b := by simp [mine]
theorem mine_one (s : ByteArray) (c : Chg) : mine s [(s, c)] = [c] := by simp [mine]
theorem mine_one_other {s x : ByteArray} (c : Chg) (h : s ≠ x) : mine x [(s, c)] = [] := by simp [mine, h]
theorem mine_others_same (s : ByteArray) (l : List (ByteArray × Chg)) : mine s (others s l) = [] := by
  have : (others s l).filter (fun x => decide (x.1 = s)) = [] := by
    rw [List.filter_eq_nil_iff]
    intro x hx
    have := (List.mem_filter.1 hx).2
    simpa using this
  unfold mine
  rw [this]; rfl
theorem mine_others (s x : ByteArray) (h : x ≠ s) (l : List (ByteArray × Chg)) : mine x (others s l) = mine x l := by
  unfold mine others
  rw [List.filter_filter]
  congr 1
  apply List.filter_congr
  intro y _
  by_cases hy : y.1 = x
  · simp [hy, h]
  · simp [hy]
theorem mem_mine {s : ByteArray} {c : Chg} {l : List (ByteArray × Chg)} : c ∈ mine s l ↔ (s, c) ∈ l := by
  unfold mine
  simp only [List.mem_map, List.mem_filter, decide_eq_true_eq]
  constructor
  · rintro ⟨⟨a, b⟩, ⟨h1, h2⟩, h3⟩
    simp only at h2 h3
    subst h2 h3
    exact h1
  · intro h
    exact ⟨(s, c), ⟨h, rfl⟩, rfl⟩
theorem mem_others {s : ByteArray} {x : ByteArray × Chg} {l : List (ByteArray × Chg)} : x ∈ others s l ↔ x ∈ l ∧ x.1 ≠ s := by
  unfold others
  rw [List.mem_filter]
  simp
theorem others_length (s : ByteArray) (l : List (ByteArray × Chg)) : (others s l).length ≤ l.length := List.length_filter_le _ _
theorem mine_length (s : ByteArray) (l : List (ByteArray × Chg)) : (mine s l).length ≤ l.length := by
  unfold mine
  rw [List.length_map]
  exact List.length_filter_le _ _

/-- What holds of every disk that the calls have made. -/
structure WF (D : DS) : Prop where
  nodup : D.names.Nodup
  names : ∀ s, s ∈ D.names ↔ D.now s ≠ none ∨ D.safe s ≠ none ∨ ∃ c, (s, c) ∈ D.chs
  right : ∀ s ∈ D.names, rightB s = true
  count : D.names.length ≤ D.made
  nowSz : ∀ s b, D.now s = some b → b.length ≤ 1073741824
  safeSz : ∀ s b, D.safe s = some b → b.length ≤ 1073741824
  chSz : ∀ x ∈ D.chs, x.2.pos + x.2.s.size ≤ 1073741824
  asc : D.chs.Pairwise fun a b => a.2.n < b.2.n
  below : ∀ x ∈ D.chs, x.2.n < D.made
  kind : ∀ x ∈ D.chs, x.2.kind ≤ 2
  len : D.chs.length ≤ D.made
  room : D.room ≤ 1073741824
  used : D.used = total D.names D.now

theorem WF.short {D : DS} (h : WF D) {s : ByteArray} (hs : s ∈ D.names) : Short s := by
  have := h.right s hs
  unfold rightB at this
  simp only [Bool.and_eq_true, decide_eq_true_eq] at this
  have := this.1.2
  show s.size ≤ maxLen
  simp only [maxLen]; omega
theorem short_right {s : ByteArray} (h : rightB s = true) : Short s := by
  unfold rightB at h
  simp only [Bool.and_eq_true, decide_eq_true_eq] at h
  have := h.1.2
  show s.size ≤ maxLen
  simp only [maxLen]; omega
theorem WF.gone {D : DS} (h : WF D) {s : ByteArray} (hs : s ∉ D.names) : D.now s = none ∧ D.safe s = none ∧ mine s D.chs = [] := by
  have := mt (h.names s).2 hs
  simp only [not_or, ne_eq, Decidable.not_not, not_exists] at this
  refine ⟨this.1, this.2.1, ?_⟩
  cases hm : mine s D.chs with
  | nil => rfl
  | cons c r => exact absurd (mem_mine.1 (by rw [hm]; exact List.mem_cons_self)) (this.2.2 c)
theorem WF.usedLe {D : DS} (h : WF D) : D.used ≤ D.made * 1073741824 := by
  rw [h.used]
  exact Nat.le_trans (total_le _ _ h.nowSz _) (Nat.mul_le_mul_right _ h.count)
theorem WF.mineLe {D : DS} (h : WF D) (s : ByteArray) : (mine s D.chs).length ≤ D.made := Nat.le_trans (mine_length s D.chs) h.len
theorem WF.nowLe {D : DS} (h : WF D) (s : ByteArray) : szO (D.now s) ≤ 1073741824 := by
  cases hs : D.now s with
  | none => simp [szO]
  | some b => exact h.nowSz s b hs
theorem WF.safeLe {D : DS} (h : WF D) (s : ByteArray) : szO (D.safe s) ≤ 1073741824 := by
  cases hs : D.safe s with
  | none => simp [szO]
  | some b => exact h.safeSz s b hs

def DS.fresh (room : Nat) : DS := ⟨room, 0, 0, false, [], fun _ => none, fun _ => none, []⟩
theorem WF.fresh (room : Nat) (h : room ≤ 1073741824) : WF (DS.fresh room) :=
  ⟨List.nodup_nil, fun s => (by simp [DS.fresh]), fun s h => (by simp [DS.fresh] at h), Nat.le_refl _, fun _ _ h => (by cases h), fun _ _ h => (by cases h), fun x h => (by simp [DS.fresh] at h), List.Pairwise.nil, fun x h => (by simp [DS.fresh] at h), fun x h => (by simp [DS.fresh] at h), Nat.le_refl _, h, rfl⟩

/-- A write's error. -/
def DS.writeN (D : DS) (s : ByteArray) (k : Int) (n : Nat) : Nat :=
  if refN D.fails s k ≠ 0 then refN D.fails s k
  else if (szO (D.now s) : Int) < k then 8
  else if szO (D.now s) < k.toNat + n ∧ D.room + szO (D.now s) < D.used + (k.toNat + n) then 6
  else 0
/-- The disk behind a write. -/
def DS.wrote (D : DS) (s : ByteArray) (k : Nat) (d : ByteArray) : DS :=
  { D with used := D.used + (k + d.size - szO (D.now s)), made := D.made + 1, names := if s ∈ D.names then D.names else D.names ++ [s], now := upd D.now s (some (overL ((D.now s).getD []) k (bytesS d))), chs := D.chs ++ [(s, ⟨D.made, 0, k, d⟩)] }
def DS.write (D : DS) (s : ByteArray) (k : Int) (d : ByteArray) : DS := if D.writeN s k d.size = 0 then D.wrote s k.toNat d else D

def DS.cutN (D : DS) (s : ByteArray) (k : Int) : Nat :=
  if refN D.fails s k ≠ 0 then refN D.fails s k else if D.now s = none then 7 else if (szO (D.now s) : Int) < k then 8 else 0
def DS.cutD (D : DS) (s : ByteArray) (k : Nat) : DS :=
  { D with used := D.used - (szO (D.now s) - k), made := D.made + 1, now := upd D.now s (some (((D.now s).getD []).take k)), chs := D.chs ++ [(s, ⟨D.made, 1, k, ⟨#[]⟩⟩)] }
def DS.cut (D : DS) (s : ByteArray) (k : Int) : DS := if D.cutN s k = 0 then D.cutD s k.toNat else D

def DS.removeN (D : DS) (s : ByteArray) : Nat := if refN D.fails s 0 ≠ 0 then refN D.fails s 0 else if D.now s = none then 7 else 0
def DS.removeD (D : DS) (s : ByteArray) : DS :=
  { D with used := D.used - szO (D.now s), made := D.made + 1, now := upd D.now s none, chs := D.chs ++ [(s, ⟨D.made, 2, 0, ⟨#[]⟩⟩)] }
def DS.remove (D : DS) (s : ByteArray) : DS := if D.removeN s = 0 then D.removeD s else D

def DS.syncN (D : DS) (s : ByteArray) : Nat := if refN D.fails s 0 ≠ 0 then refN D.fails s 0 else if s ∈ D.names then 0 else 7
def DS.syncD (D : DS) (s : ByteArray) : DS :=
  { D with names := if D.now s = none then D.names.erase s else D.names, safe := upd D.safe s (D.now s), chs := others s D.chs }
def DS.sync (D : DS) (s : ByteArray) : DS := if D.syncN s = 0 then D.syncD s else D

theorem refN_zero {fails : Bool} {s : ByteArray} {k : Int} (h : refN fails s k = 0) : fails = false ∧ rightB s = true ∧ 0 ≤ k := by
  unfold refN at h
  cases fails with
  | true => simp at h
  | false =>
    simp only [Bool.false_eq_true, if_false] at h
    by_cases h2 : rightB s = false ∨ k < 0
    · rw [if_pos h2] at h; cases h
    · simp only [not_or, Bool.not_eq_false] at h2
      exact ⟨rfl, h2.1, by omega⟩
theorem writeN_zero {D : DS} {s : ByteArray} {k : Int} {n : Nat} (h : D.writeN s k n = 0) : refN D.fails s k = 0 ∧ k.toNat ≤ szO (D.now s) ∧ (szO (D.now s) < k.toNat + n → D.used + (k.toNat + n) ≤ D.room + szO (D.now s)) := by
  unfold DS.writeN at h
  by_cases h1 : refN D.fails s k = 0
  · rw [if_neg (by simpa using h1)] at h
    by_cases h2 : (szO (D.now s) : Int) < k
    · rw [if_pos h2] at h; cases h
    · rw [if_neg h2] at h
      by_cases h3 : szO (D.now s) < k.toNat + n ∧ D.room + szO (D.now s) < D.used + (k.toNat + n)
      · rw [if_pos h3] at h; cases h
      · exact ⟨h1, by omega, fun h4 => by omega⟩
  · rw [if_pos h1] at h; exact absurd h h1
theorem overL_length (bs : List Nat) (k : Nat) (hk : k ≤ bs.length) (d : List Nat) : (overL bs k d).length = max bs.length (k + d.length) := by
  unfold overL
  simp only [List.length_append, List.length_take, List.length_drop]
  omega

theorem WF.wrote {D : DS} (h : WF D) {s : ByteArray} {k : Int} {d : ByteArray} (h0 : D.writeN s k d.size = 0) : WF (D.wrote s k.toNat d) := by
  obtain ⟨h1, h2, h3⟩ := writeN_zero h0
  obtain ⟨_, hr, _⟩ := refN_zero h1
  have hlen : (overL ((D.now s).getD []) k.toNat (bytesS d)).length = max (szO (D.now s)) (k.toNat + d.size) := by
    rw [overL_length _ _ (by rw [szO_getD]; exact h2), szO_getD, bytesS_length]
  have hsz : k.toNat + d.size ≤ 1073741824 ∧ max (szO (D.now s)) (k.toNat + d.size) ≤ 1073741824 := by
    have h4 := h.nowLe s
    have h5 : szO (D.now s) ≤ D.used := by
      rw [h.used]
      by_cases hs : s ∈ D.names
      · exact total_ge _ _ _ hs
      · rw [(h.gone hs).1]; exact Nat.zero_le _
    have := h.room
    by_cases h6 : szO (D.now s) < k.toNat + d.size
    · have := h3 h6; omega
    · omega
  constructor
  · show (if s ∈ D.names then D.names else D.names ++ [s]).Nodup
    by_cases hs : s ∈ D.names
    · rw [if_pos hs]; exact h.nodup
    · rw [if_neg hs]
      exact List.nodup_append.2 ⟨h.nodup, by simp, fun a ha b hb => by simp at hb; subst hb; exact fun e => hs (e ▸ ha)⟩
  · intro x
    show x ∈ (if s ∈ D.names then D.names else D.names ++ [s]) ↔ upd D.now s _ x ≠ none ∨ D.safe x ≠ none ∨ ∃ c, (x, c) ∈ D.chs ++ [(s, _)]
    by_cases hx : x = s
    · subst hx
      rw [upd_same]
      simp only [ne_eq, reduceCtorEq, not_false_eq_true, true_or, iff_true]
      by_cases hs : x ∈ D.names
      · rw [if_pos hs]; exact hs
      · rw [if_neg hs]; simp
    · rw [upd_other _ _ hx]
      have e1 : (∃ c, (x, c) ∈ D.chs ++ [(s, (⟨D.made, 0, k.toNat, d⟩ : Chg))]) ↔ ∃ c, (x, c) ∈ D.chs := by
        constructor
        · rintro ⟨c, hc⟩
          rcases List.mem_append.1 hc with hc | hc
          · exact ⟨c, hc⟩
          · simp only [List.mem_singleton, Prod.mk.injEq] at hc
            exact absurd hc.1 hx
        · rintro ⟨c, hc⟩
          exact ⟨c, List.mem_append_left _ hc⟩
      rw [e1, ← h.names x]
      by_cases hs : s ∈ D.names
      · rw [if_pos hs]
      · rw [if_neg hs]; simp [hx]
  · intro x hx
    have hx' : x ∈ (if s ∈ D.names then D.names else D.names ++ [s]) := hx
    by_cases hs : s ∈ D.names
    · rw [if_pos hs] at hx'; exact h.right x hx'
    · rw [if_neg hs] at hx'
      rcases List.mem_append.1 hx' with hx' | hx'
      · exact h.right x hx'
      · simp only [List.mem_singleton] at hx'
        subst hx'; exact hr
  · show (if s ∈ D.names then D.names else D.names ++ [s]).length ≤ D.made + 1
    have := h.count
    by_cases hs : s ∈ D.names
    · rw [if_pos hs]; omega
    · rw [if_neg hs]; simp; omega
  · intro x b hb
    have hb' : upd D.now s _ x = some b := hb
    by_cases hx : x = s
    · subst hx
      rw [upd_same] at hb'
      obtain rfl := Option.some.inj hb'
      rw [hlen]; exact hsz.2
    · rw [upd_other _ _ hx] at hb'; exact h.nowSz x b hb'
  · exact h.safeSz
  · intro x hx
    rcases List.mem_append.1 (show x ∈ D.chs ++ [_] from hx) with hx | hx
    · exact h.chSz x hx
    · simp only [List.mem_singleton] at hx
      subst hx; exact hsz.1
  · refine List.pairwise_append.2 ⟨h.asc, by simp, fun a ha b hb => ?_⟩
    simp only [List.mem_singleton] at hb
    subst hb; exact h.below a ha
  · intro x hx
    show x.2.n < D.made + 1
    rcases List.mem_append.1 (show x ∈ D.chs ++ [_] from hx) with hx | hx
    · have := h.below x hx; omega
    · simp only [List.mem_singleton] at hx
      subst hx; exact Nat.lt_succ_self _
  · intro x hx
    rcases List.mem_append.1 (show x ∈ D.chs ++ [_] from hx) with hx | hx
    · exact h.kind x hx
    · simp only [List.mem_singleton] at hx
      subst hx; exact Nat.zero_le _
  · show (D.chs ++ [_]).length ≤ D.made + 1
    have := h.len
    simp; exact this
  · exact h.room
  · show D.used + (k.toNat + d.size - szO (D.now s)) = total (if s ∈ D.names then D.names else D.names ++ [s]) (upd D.now s _)
    have hu := h.used
    by_cases hs : s ∈ D.names
    · rw [if_pos hs]
      have := total_in D.now s (some (overL ((D.now s).getD []) k.toNat (bytesS d))) D.names h.nodup hs
      have e : szO (some (overL ((D.now s).getD []) k.toNat (bytesS d))) = max (szO (D.now s)) (k.toNat + d.size) := hlen
      rw [e] at this
      omega
    · rw [if_neg hs, total_append, total_out _ _ _ _ hs]
      have e : total [s] (upd D.now s (some (overL ((D.now s).getD []) k.toNat (bytesS d)))) = max (szO (D.now s)) (k.toNat + d.size) := by
        unfold total
        rw [List.map_singleton, List.sum_singleton, upd_same]
        exact hlen
      rw [e, (h.gone hs).1] at *
      simp only [szO] at *
      omega

theorem WF.write {D : DS} (h : WF D) (s : ByteArray) (k : Int) (d : ByteArray) : WF (D.write s k d) := by
  unfold DS.write
  by_cases h0 : D.writeN s k d.size = 0
  · rw [if_pos h0]; exact h.wrote h0
  · rw [if_neg h0]; exact h

theorem syncN_zero {D : DS} {s : ByteArray} (h : D.syncN s = 0) : refN D.fails s 0 = 0 ∧ s ∈ D.names := by
  unfold DS.syncN at h
  by_cases h1 : refN D.fails s 0 = 0
  · rw [if_neg (by simpa using h1)] at h
    by_cases h2 : s ∈ D.names
    · exact ⟨h1, h2⟩
    · rw [if_neg h2] at h; cases h
  · rw [if_pos h1] at h; exact absurd h h1

theorem WF.syncD {D : DS} (h : WF D) (s : ByteArray) (hs : s ∈ D.names) : WF (D.syncD s) := by
  have hn : ∀ x, x ∈ (if D.now s = none then D.names.erase s else D.names) ↔ x ∈ D.names ∧ (x = s → D.now s ≠ none) := fun x => by
    by_cases h0 : D.now s = none
    · rw [if_pos h0, h.nodup.mem_erase_iff]
      constructor
      · rintro ⟨h1, h2⟩; exact ⟨h2, fun e => absurd e h1⟩
      · rintro ⟨h1, h2⟩; exact ⟨fun e => h2 e h0, h1⟩
    · rw [if_neg h0]
      exact ⟨fun h1 => ⟨h1, fun _ => h0⟩, fun h1 => h1.1⟩
  constructor
  · show (if D.now s = none then D.names.erase s else D.names).Nodup
    by_cases h0 : D.now s = none
    · rw [if_pos h0]; exact h.nodup.erase _
    · rw [if_neg h0]; exact h.nodup
  · intro x
    show x ∈ (if D.now s = none then D.names.erase s else D.names) ↔ D.now x ≠ none ∨ upd D.safe s (D.now s) x ≠ none ∨ ∃ c, (x, c) ∈ others s D.chs
    rw [hn, h.names x]
    by_cases hx : x = s
    · subst hx
      rw [upd_same]
      have : ¬ ∃ c, (x, c) ∈ others x D.chs := by
        rintro ⟨c, hc⟩
        exact (mem_others.1 hc).2 rfl
      constructor
      · rintro ⟨_, h2⟩; exact .inl (h2 rfl)
      · rintro (h1 | h1 | h1)
        · exact ⟨.inl h1, fun _ => h1⟩
        · exact ⟨.inl h1, fun _ => h1⟩
        · exact absurd h1 this
    · rw [upd_other _ _ hx]
      have e : (∃ c, (x, c) ∈ others s D.chs) ↔ ∃ c, (x, c) ∈ D.chs := by
        constructor
        · rintro ⟨c, hc⟩; exact ⟨c, (mem_others.1 hc).1⟩
        · rintro ⟨c, hc⟩; exact ⟨c, mem_others.2 ⟨hc, hx⟩⟩
      rw [e]
      exact ⟨fun h1 => h1.1, fun h1 => ⟨h1, fun e => absurd e hx⟩⟩
  · intro x hx
    exact h.right x ((hn x).1 hx).1
  · show (if D.now s = none then D.names.erase s else D.names).length ≤ D.made
    have := h.count
    by_cases h0 : D.now s = none
    · rw [if_pos h0]
      have := List.length_erase_le (a := s) (l := D.names)
      omega
    · rw [if_neg h0]; exact this
  · exact h.nowSz
  · intro x b hb
    have hb' : upd D.safe s (D.now s) x = some b := hb
    by_cases hx : x = s
    · subst hx
      rw [upd_same] at hb'; exact h.nowSz x b hb'
    · rw [upd_other _ _ hx] at hb'; exact h.safeSz x b hb'
  · exact fun x hx => h.chSz x (mem_others.1 hx).1
  · exact h.asc.sublist List.filter_sublist
  · exact fun x hx => h.below x (mem_others.1 hx).1
  · exact fun x hx => h.kind x (mem_others.1 hx).1
  · exact Nat.le_trans (others_length s D.chs) h.len
  · exact h.room
  · show D.used = total (if D.now s = none then D.names.erase s else D.names) D.now
    rw [h.used]
    by_cases h0 : D.now s = none
    · rw [if_pos h0, total_perm D.now (List.perm_cons_erase hs)]
      unfold total
      rw [List.map_cons, List.sum_cons, h0]
      show 0 + _ = _
      omega
    · rw [if_neg h0]
theorem WF.sync {D : DS} (h : WF D) (s : ByteArray) : WF (D.sync s) := by
  unfold DS.sync
  by_cases h0 : D.syncN s = 0
  · rw [if_pos h0]; exact h.syncD s (syncN_zero h0).2
  · rw [if_neg h0]; exact h

end Go.Proofs.Ytnjjjalenhbicaa.Disk
