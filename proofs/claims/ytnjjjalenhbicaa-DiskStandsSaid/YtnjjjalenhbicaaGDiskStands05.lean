/-
  Put together out of texts of one chain: what they hold stands ahead of each.
-/
import Derived.Test.YtnjjjalenhbicaaGDiskStands02
import Derived.Maps.OwnOps
import Derived.Maps.OwnSet
import Derived.Maps.RangeWalk
import Derived.StringKeys
import Derived.Test.YtnjjjalenhbicaaGDiskStands04
import Derived.Deep.RegionWith
import Derived.IntWalk
import Derived.Lib.SliceRun
/-
  Stores into two blocks, in either order; a known append as a step of a region that draws its order. Of whatever program.
-/
namespace Go.Proofs.Ytnjjjalenhbicaa.Law
open Go Go.RowKit

theorem setCell_swap (w : World) (a b : Addr) (u v : Value) (h : a.block ≠ b.block) : (w.setCell a u).setCell b v = (w.setCell b v).setCell a u := by
  simp only [World.setCell]
  congr 1
  apply Array.ext
  · simp
  · intro i h1 h2
    simp only [Array.getElem_modify]
    by_cases ha : a.block = i
    · have hb : ¬ b.block = i := fun e => h (ha.trans e.symm)
      simp [ha, hb]
    · simp [ha]

theorem step_append_ran {P : Program} {ops : Array Oper} {o : Oper} {a : Act} {w : World} {K : Act → World → Prop} {Q : Exit → Act → World → Prop} {E : Prop} (hgd : Region.wanted o (yielded ops a.tmps) = true) (s x : Operand) (t : TypeId)
    (ho : o.op = .call { callee := .builtin .append, args := #[s, x], argTypes := #[t, t] }) {v sv v' : Value} {w' : World} (hs : a.eval s = v) (hx : a.eval x = sv)
    (hrun : (Builtin.append_ #[t, t] o.type #[v, sv]).run P w = .ok v' w') (h : K (a.put o.dst v') w') : if Region.wanted o (yielded ops a.tmps) = true then Oper.wp P o a w K Q else E := by
  rw [if_pos hgd]
  unfold Oper.wp execOp
  simp only [ho, resolve, invoke, builtin, Sem.run_bind, Sem.run_pure, Result.andThen_ok, List.map_toArray, List.map_cons, List.map_nil, hs, hx, hrun]
  exact h

/-- A new variable of a type whose zero is known, as a step of the walk. -/
theorem wpList_alloc_ran {P : Program} {ops : Array Oper} {rest : List Oper} {o : Oper} {a : Act} {w : World} {Q : Exit → Act → World → Prop} (hgd : Region.wanted o (yielded ops a.tmps) = true) (t : TypeId)
    (ho : o.op = .alloc t) {cs : Array Value} (hz : (P.info? t).map (fun i => i.zero) = some (some (.agg cs))) (hcs : (Value.agg cs).cells = cs) (h : wpList P ops Q rest (a.put o.dst (.pointer (some ⟨w.heap.size, 0, none⟩))) (w.alloc (.cells cs t))) : wpList P ops Q (o :: rest) a w := by
  refine wpList_step fun K hK => ?_
  rw [if_pos hgd]
  obtain ⟨i, hi, hz⟩ := Option.map_eq_some_iff.1 hz
  unfold Oper.wp execOp
  simp only [ho, Instr.alloc, zeroValue, typeInfo, newVar, newRow, Sem.run_bind, Sem.run_pure, Result.andThen_ok, run_program, hi, hz, hcs, run_newObj]

  exact hK _ _ h

end Go.Proofs.Ytnjjjalenhbicaa.Law

/-
  A map from names to pointers to whole blocks: what it leads where; looked up, stored into, deleted from, ranged over. Of whatever program.
-/
namespace Go.Proofs.Ytnjjjalenhbicaa.Law
open Go Go.RowKit Go.Maps Go.ChangeMaps Go.WideMaps

/-- A pointer as a value, by its block. -/
def ptrV : Option Nat → Value
  | none => .pointer none
  | some g => .pointer (some ⟨g, 0, none⟩)
/-- .. and as a datum. -/
def ptrD : Option Nat → DataW Unit
  | none => .lit (.int .u64 0)
  | some g => .lit (.int .u64 ((g : Int) + 1))
def ptrElem : Value → Option (DataW Unit × List MemPlace)
  | .pointer none => some (ptrD none, [])
  | .pointer (some ⟨g, 0, none⟩) => some (ptrD (some g), [])
  | _ => none

theorem ptrElem_mk (g : Option Nat) : ptrElem (ptrV g) = some (ptrD g, []) := by cases g <;> rfl
theorem ptrElem_inv {v : Value} {y : DataW Unit × List MemPlace} (h : ptrElem v = some y) : ∃ g, v = ptrV g ∧ y = (ptrD g, []) := by
  unfold ptrElem at h
  split at h
  · exact ⟨none, rfl, (Option.some.inj h).symm⟩
  · rename_i g; exact ⟨some g, rfl, (Option.some.inj h).symm⟩
  · cases h
theorem ptrD_inj {g g' : Option Nat} (h : ptrD g = ptrD g') : g = g' := by
  cases g with
  | none =>
    cases g' with
    | none => rfl
    | some b => simp only [ptrD, DataW.lit.injEq, Lit.int.injEq, true_and] at h; omega
  | some a =>
    cases g' with
    | none => simp only [ptrD, DataW.lit.injEq, Lit.int.injEq, true_and] at h; omega
    | some b => simp only [ptrD, DataW.lit.injEq, Lit.int.injEq, true_and] at h; congr 1; omega

def keyL (s : ByteArray) : Lit := .string s.data.toList
theorem keyL_inj {s t : ByteArray} (h : keyL s = keyL t) : s = t := by
  simp only [keyL, Lit.string.injEq] at h
  have : s.data = t.data := by
    apply Array.ext'
    exact h
  cases s; cases t
  simp only at this
  rw [this]

/-- Names that can lie in memory. -/
def Short (s : ByteArray) : Prop := s.size ≤ maxLen

/-- What the datum leads where. -/
def Leads (D : DataW Unit) (F : ByteArray → Option Nat) : Prop := ∀ s : ByteArray, Short s → D.atKey (keyL s) (ptrD none) = ptrD (F s) ∧ Maps.has D (keyL s) = (F s).isSome

/-- Block b is a map of at most n entries that leads each name where F says. -/
def MapP (P : Program) (k : TypeId) (W : World) (b n : Nat) (F : ByteArray → Option Nat) : Prop := ∃ D, W.ownsMap P k ptrElem b n D ∧ Leads D F

section
variable {P : Program} {k e t : TypeId} {W W' : World} {b n : Nat} {F : ByteArray → Option Nat}

theorem MapP.made (P : Program) (k : TypeId) (W : World) : MapP P k (W.alloc (.map #[] 0)) W.heap.size 0 (fun _ => none) :=
  ⟨.map [], World.ownsMap_made W P k ptrElem, fun _ _ => ⟨rfl, rfl⟩⟩
theorem MapP.lt (h : MapP P k W b n F) : b < W.heap.size := by obtain ⟨D, h, _⟩ := h; exact h.lt
theorem MapP.kept {row : Option Nat} (h : MapP P k W b n F) (hg : W.grownBy W' row) (hne : some b ≠ row) : MapP P k W' b n F := by
  obtain ⟨D, h, h2⟩ := h; exact ⟨D, h.kept hg hne, h2⟩
theorem MapP.at (h : MapP P k W b n F) (hb : W'.heap[b]? = W.heap[b]?) : MapP P k W' b n F := by
  obtain ⟨D, ⟨es, clock, h1, h2⟩, h3⟩ := h; exact ⟨D, ⟨es, clock, hb.trans h1, h2⟩, h3⟩

theorem MapP.look (h : MapP P k W b n F) (hk : P.underlying k = some .string) (ht : P.underlying t = some (.map k e)) (hz : (zeroValue e).run P W = .ok (.pointer none) W) {s : ByteArray} (hs : Short s) :
    (Instr.lookup t (.map (some b)) (.string s) false).run P W = .ok (ptrV (F s)) W := by
  obtain ⟨D, h, hl⟩ := h
  obtain ⟨v, ps, hrun, hv⟩ := h.lookup (string_keyed hk) ht hz (ptrElem_mk none) (keyOf_string_mk hk hs)
  obtain ⟨g, rfl, hg⟩ := ptrElem_inv hv
  simp only [Prod.mk.injEq] at hg
  have := (hl s hs).1
  unfold keyL at this
  rw [this] at hg
  rw [hrun, ptrD_inj hg.1]

theorem MapP.store (h : MapP P k W b n F) (hk : P.underlying k = some .string) (ht : P.underlying t = some (.map k e)) (hn : n < maxLen) {s : ByteArray} (hs : Short s) (g : Nat) :
    ∃ w', (Instr.mapUpdate t (.map (some b)) (.string s) (.pointer (some ⟨g, 0, none⟩))).run P W = .ok () w' ∧ MapP P k w' b (n + 1) (fun x => if x = s then some g else F x) ∧ W.grownBy w' (some b) := by
  obtain ⟨D, h, hl⟩ := h
  obtain ⟨w', hrun, h1, h2⟩ := h.update (string_keyed hk) ht hn (keyOf_string_mk hk hs) (ptrElem_mk (some g))
  refine ⟨w', hrun, ⟨_, h1, fun x hx => ?_⟩, h2⟩
  by_cases he : x = s
  · subst he
    dsimp only
    rw [if_pos rfl]
    exact ⟨atKey_put_same h.isMap (k := keyL x) trivial _ _, has_put_same h.isMap (k := keyL x) trivial _⟩
  · dsimp only
    rw [if_neg he]
    have hne : keyL x ≠ keyL s := fun e => he (keyL_inj e)
    exact ⟨(atKey_put_other hne _ _).trans (hl x hx).1, (has_put_other hne _).trans (hl x hx).2⟩

theorem MapP.drop (h : MapP P k W b n F) (hk : P.underlying k = some .string) (ht : P.underlying t = some (.map k e)) {s : ByteArray} (hs : Short s) (ty : TypeId) :
    ∃ w', (Builtin.delete_ #[t, k] ty #[.map (some b), .string s]).run P W = .ok (.tuple #[]) w' ∧ MapP P k w' b n (fun x => if x = s then none else F x) ∧ W.mapTurned w' b := by
  obtain ⟨D, h, hl⟩ := h
  obtain ⟨w', hrun, h1, h2⟩ := h.drop (string_keyed hk) ht (keyOf_string_mk hk hs) ty
  refine ⟨w', hrun, ⟨_, h1, fun x hx => ?_⟩, h2⟩
  by_cases he : x = s
  · subst he
    dsimp only
    rw [if_pos rfl]
    exact ⟨atKey_del_same _, has_del_same⟩
  · dsimp only
    rw [if_neg he]
    have hne : keyL x ≠ keyL s := fun e => he (keyL_inj e)
    exact ⟨(atKey_del_other hne _).trans (hl x hx).1, (has_del_other hne).trans (hl x hx).2⟩

/-- A range over the map under way: L tells the names that are still to come, cnt how many. -/
def RangeP (P : Program) (k : TypeId) (W : World) (b r n : Nat) (F : ByteArray → Option Nat) (L : ByteArray → Bool) (cnt : Nat) : Prop :=
  ∃ D left, W.ranges P k ptrElem b r n D left cnt ∧ Leads D F ∧ ∀ s, Short s → left (keyL s) = L s

theorem RangeP.map {r cnt : Nat} {L : ByteArray → Bool} (h : RangeP P k W b r n F L cnt) : MapP P k W b n F := by
  obtain ⟨D, left, h, hl, _⟩ := h; exact ⟨D, h.owns, hl⟩
theorem RangeP.kept {r cnt : Nat} {L : ByteArray → Bool} {row : Option Nat} (h : RangeP P k W b r n F L cnt) (hg : W.grownBy W' row) (hb : some b ≠ row) (hr : some r ≠ row) : RangeP P k W' b r n F L cnt := by
  obtain ⟨D, left, h, h2⟩ := h; exact ⟨D, left, h.kept hg hb hr, h2⟩
theorem RangeP.at {r cnt : Nat} {L : ByteArray → Bool} (h : RangeP P k W b r n F L cnt) (hb : W'.heap[b]? = W.heap[b]?) (hr : W'.heap[r]? = W.heap[r]?) : RangeP P k W' b r n F L cnt := by
  obtain ⟨D, left, ⟨es, clock, since, seen, c0, h1, h2, h3, h4, h5, h6⟩, h7⟩ := h
  exact ⟨D, left, ⟨es, clock, since, seen, c0, hb.trans h1, h2, h3, h4, hr.trans h5, h6⟩, h7⟩

theorem MapP.range (h : MapP P k W b n F) (hk : P.underlying k = some .string) (ht : P.underlying t = some (.map k e)) :
    ∃ w' cnt, (Instr.range t (.map (some b))).run P W = .ok (.pointer (some ⟨W.heap.size, 0, none⟩)) w' ∧ RangeP P k w' b W.heap.size n F (fun s => (F s).isSome) cnt ∧ W.grownBy w' none ∧ w'.heap.size = W.heap.size + 1 := by
  obtain ⟨D, h, hl⟩ := h
  obtain ⟨w', hrun, h1, h2, h3⟩ := h.range (string_keyed hk) ht
  exact ⟨w', _, hrun, ⟨D, _, h1, hl, fun s hs => (hl s hs).2⟩, h2, h3⟩

/-- The next name, if there is one. -/
theorem RangeP.next {r cnt : Nat} {L : ByteArray → Bool} (h : RangeP P k W b r n F L cnt) (hk : P.underlying k = some .string) (ty : TypeId) :
    (cnt = 0 ∧ (∀ s, Short s → L s = false) ∧ (Instr.next (.pointer (some ⟨r, 0, none⟩)) false ty).run P W = .ok (.tuple #[.bool false]) W) ∨
    ∃ s g w' cnt', Short s ∧ L s = true ∧ F s = some g ∧ (Instr.next (.pointer (some ⟨r, 0, none⟩)) false ty).run P W = .ok (.tuple #[.bool true, .string s, .pointer (some ⟨g, 0, none⟩)]) w' ∧
      RangeP P k w' b r n F (fun x => L x && !decide (x = s)) cnt' ∧ cnt' < cnt ∧ W.grownBy w' (some r) ∧ w'.heap.size = W.heap.size ∧ (Instr.entry (.pointer (some ⟨r, 0, none⟩))).run P w' = .ok (.tuple #[.string s, .pointer (some ⟨g, 0, none⟩)]) w' := by
  obtain ⟨D, left, h, hl, hL⟩ := h
  rcases h.next (string_keyed hk) ty with ⟨h0, hn, hrun⟩ | ⟨key, v, kl, y, w', cnt', hkey, hlk, hv, hat, hrun, hrg, hlt, hgr, hsz, hen⟩
  · exact .inl ⟨h0, fun s hs => (hL s hs).symm.trans (hn _), hrun⟩
  · obtain ⟨s, rfl, rfl, hs⟩ := string_of_keyOf hk hkey
    obtain ⟨g, rfl, rfl⟩ := ptrElem_inv hv
    have hF : ptrD (F s) = ptrD g := (hl s hs).1.symm.trans (hat _)
    have hF2 := ptrD_inj hF
    have hhas : (F s).isSome = true := (hl s hs).2.symm.trans (has_true_of_atKey hat)
    rw [hF2] at hhas
    cases g with
    | none => cases hhas
    | some g =>
      refine .inr ⟨s, g, w', cnt', hs, (hL s hs).symm.trans hlk, hF2, hrun, ⟨D, _, hrg, hl, fun x hx => ?_⟩, hlt, hgr, hsz, hen⟩
      dsimp only
      rw [hL x hx]
      congr 2
      by_cases he : x = s
      · subst he
        rw [decide_eq_true rfl]
        exact WideAt.sameKey_self (a := keyL x) trivial
      · rw [decide_eq_false he]
        exact sameKey_ne (fun e => he (keyL_inj e))

/-- The name that came last is deleted in the round. -/
theorem RangeP.drop {r cnt : Nat} {L : ByteArray → Bool} (h : RangeP P k W b r n F L cnt) (hk : P.underlying k = some .string) (ht : P.underlying t = some (.map k e)) {s : ByteArray} (hs : Short s) (ty : TypeId) :
    ∃ w' cnt', (Builtin.delete_ #[t, k] ty #[.map (some b), .string s]).run P W = .ok (.tuple #[]) w' ∧ RangeP P k w' b r n (fun x => if x = s then none else F x) (fun x => L x && !decide (x = s)) cnt' ∧ cnt' ≤ cnt ∧ W.mapTurned w' b := by
  obtain ⟨D, left, h, hl, hL⟩ := h
  obtain ⟨w', cnt', hrun, h1, h2, h3⟩ := h.drop (string_keyed hk) ht (keyOf_string_mk hk hs) ty
  refine ⟨w', cnt', hrun, ⟨_, _, h1, fun x hx => ?_, fun x hx => ?_⟩, h2, h3⟩
  · by_cases he : x = s
    · subst he
      dsimp only
      rw [if_pos rfl]
      exact ⟨atKey_del_same _, has_del_same⟩
    · dsimp only
      rw [if_neg he]
      have hne : keyL x ≠ keyL s := fun e => he (keyL_inj e)
      exact ⟨(atKey_del_other hne _).trans (hl x hx).1, (has_del_other hne).trans (hl x hx).2⟩
  · dsimp only
    rw [hL x hx]
    congr 2
    by_cases he : x = s
    · subst he
      rw [decide_eq_true rfl]
      exact WideAt.sameKey_self (a := keyL x) trivial
    · rw [decide_eq_false he]
      exact sameKey_ne (fun e => he (keyL_inj e))

end

/-- An operation whose run is known and that yields a value, as a step of the walk. -/
theorem wpList_exec_ran {P : Program} {ops : Array Oper} {rest : List Oper} {o : Oper} {a : Act} {w w' : World} {Q : Exit → Act → World → Prop} (hgd : Region.wanted o (yielded ops a.tmps) = true) {v : Value}
    (hrun : (execOp a.eval o).run P w = .ok (.value v) w') (h : wpList P ops Q rest (a.put o.dst v) w') : wpList P ops Q (o :: rest) a w := by
  refine wpList_step fun K hK => ?_
  rw [if_pos hgd]
  unfold Oper.wp
  rw [hrun]
  exact hK _ _ h
theorem wpList_lookup_ran {P : Program} {ops : Array Oper} {rest : List Oper} {o : Oper} {a : Act} {w : World} {Q : Exit → Act → World → Prop} (hgd : Region.wanted o (yielded ops a.tmps) = true) (t : TypeId) (m x : Operand) (c : Bool)
    (ho : o.op = .lookup t m x c) {mv xv v : Value} (hm : a.eval m = mv) (hx : a.eval x = xv) (hrun : (Instr.lookup t mv xv c).run P w = .ok v w) (h : wpList P ops Q rest (a.put o.dst v) w) : wpList P ops Q (o :: rest) a w := by
  refine wpList_exec_ran hgd (v := v) (w' := w) ?_ h
  unfold execOp
  simp only [ho, hm, hx, Sem.run_bind, Sem.run_pure, hrun, Result.andThen_ok]

end Go.Proofs.Ytnjjjalenhbicaa.Law

/-
  Contracts of disk's small functions: right rooms and names, copies of bytes.
-/
namespace Go.Proofs.Ytnjjjalenhbicaa.Disk
open Go Go.RowKit Go.Proofs.Ytnjjjalenhbicaa.Law

theorem info_u8d : (Try.prog.info? 5).map (fun i => (i.zero, i.size, i.bytes)) = some (some (.int .u8 0), 1, 1) := by kernel_rfl

set_option maxRecDepth 100000 in
theorem rightRoom_calls (n : Int) (w : World) : Calls Try.prog 29 #[.int .i64 n] w fun e W => e = .returned (.bool (decide (0 ≤ n ∧ n ≤ 1073741824))) ∧ w = W := by
  by_cases h0 : 0 ≤ n
  · by_cases h1 : n ≤ 1073741824
    · have hr : decide (0 ≤ n ∧ n ≤ 1073741824) = true := by simp [h0, h1]
      rw [hr]
      clear hr
      go_enter Try.func29, Try.ntmps29
      go_wp2
      go_ret
      exact ⟨rfl, rfl⟩
    · have hr : decide (0 ≤ n ∧ n ≤ 1073741824) = false := by simp [h1]
      rw [hr]
      clear hr
      go_enter Try.func29, Try.ntmps29
      go_wp2
      go_ret
      exact ⟨rfl, rfl⟩
  · have hr : decide (0 ≤ n ∧ n ≤ 1073741824) = false := by simp [h0]
    rw [hr]
    clear hr
    go_enter Try.func29, Try.ntmps29
    go_wp2
    go_ret
    exact ⟨rfl, rfl⟩

/-- New bytes of the call's own. -/
def Cloned (w : World) (bs : List Nat) (e : Ending) (W : World) : Prop := ∃ v, e = .returned v ∧ OwnB W w.heap.size 5 v bs ∧ Below w.heap.size w W

set_option maxRecDepth 100000 in
set_option maxHeartbeats 1000000 in
theorem clone_calls (v : Value) (bs : List Nat) (hlen : bs.length ≤ 140737488351232) (w : World) (hI : Bytes w.heap.size w v bs) :
    Calls Try.prog 57 #[v] w (Cloned w bs) := by
  obtain ⟨i0, hi, hz0, hz1, hz2⟩ := info_parts info_u8d
  obtain ⟨A, cap, rfl⟩ := hI.form
  cases A with
  | none =>
    have h0 : bs = [] := by
      obtain ⟨A', cap', e, _, hA, _, hc⟩ := hI
      simp only [Value.slice.injEq] at e
      obtain ⟨rfl, _, rfl⟩ := e
      rcases Nat.eq_zero_or_pos bs.length with h | h
      · exact List.eq_nil_of_length_eq_zero h
      · obtain ⟨b, off, h, _⟩ := hc h; cases h
    have hcap : cap = 0 := by
      obtain ⟨A', cap', e, _, hA, _, hc⟩ := hI
      simp only [Value.slice.injEq] at e
      obtain ⟨rfl, _, rfl⟩ := e
      exact hA rfl
    subst h0 hcap
    clear hI
    have q22 : ∀ (w : World) (a : Option Addr) (n c n' c' : Nat), (binOp .eql 34 (.slice a n c) (.slice none n' c')).run Try.prog w = .ok (.bool a.isNone) w := fun w a n c n' c' => Lib.run_eql_slice_nil w _ _ a n c n' c' Try.underlying34
    go_enter Try.func57, Try.ntmps57
    go_wp2
    go_ret
    exact ⟨_, rfl, ⟨World.ownsRow_nil w _ _ 1, by simp⟩, Below.refl _ _⟩
  | some a =>
    have hB0 : Below w.heap.size w (w.alloc (.cells #[] 5)) := (Below.refl _ _).alloc (Nat.le_refl _) _
    have hO0 : OwnB (w.alloc (.cells #[] 5)) w.heap.size 5 (.slice (some ⟨w.heap.size, 0, none⟩) 0 0) [] :=
      ⟨⟨rfl, .inr ⟨w.heap.size, 0, #[], rfl, Nat.le_refl _, heap_alloc_new w _, Nat.le_refl _, by simp [maxLen], rfl, rfl⟩⟩, by simp⟩
    obtain ⟨v', w', R, O, G, _⟩ := run_append_bytes (P := Try.prog) (w.alloc (.cells #[] 5)) 34 Try.underlying34 hi hz0 hz1 hz2 rfl hO0 (hI.on hB0) (by simp; omega) (by simp)
    rw [List.nil_append] at O
    have hB1 : Below w.heap.size w w' := below_append hB0 G hO0 (Nat.le_refl _) (by simp)
    have HR := Lib.hid R
    have HO := Lib.hid O
    obtain ⟨A', c', rfl⟩ := O.bytes.form
    clear hI R O G hO0 hB0
    have q22 : ∀ (w : World) (a : Option Addr) (n c n' c' : Nat), (binOp .eql 34 (.slice a n c) (.slice none n' c')).run Try.prog w = .ok (.bool a.isNone) w := fun w a n c n' c' => Lib.run_eql_slice_nil w _ _ a n c n' c' Try.underlying34
    go_enter Try.func57, Try.ntmps57
    go_wp2_with (at_builtin; refine wpList_append_ran rfl _ _ _ rfl rfl rfl HR.out ?_)
    go_ret
    exact ⟨_, rfl, HO.out, hB1⟩

/-- A file's content as a value. -/
abbrev contentV (there : Bool) (v : Value) : Value := .agg #[.bool there, v]

/-- The cells of a block of two. -/
def Two2 (W : World) (b : Nat) (x0 x1 : Value) : Prop := W.cell? ⟨b, 0, none⟩ = some x0 ∧ W.cell? ⟨b, 1, none⟩ = some x1 ∧ W.frozen? ⟨b, 0, none⟩ = false ∧ W.frozen? ⟨b, 1, none⟩ = false
theorem two2 {W : World} {b : Nat} {x0 x1 : Value} {t : TypeId} (h : W.heap[b]? = some (Obj.cells #[x0, x1] t)) : Two2 W b x0 x1 := by
  refine ⟨?_, ?_, ?_, ?_⟩ <;> simp [World.cell?, World.frozen?, h]

/-- What Clone leaves, two new blocks ahead of it. -/
def Cloned2 (w : World) (bs : List Nat) (len : Nat) (x0 x1 y0 y1 : Value) (e : Ending) (W : World) : Prop :=
  ∃ A c, e = .returned (.slice A len c) ∧ OwnB W (w.heap.size + 2) 5 (.slice A len c) bs ∧ Below w.heap.size w W ∧ w.heap.size + 2 ≤ W.heap.size ∧ Two2 W w.heap.size x0 x1 ∧ Two2 W (w.heap.size + 1) y0 y1
theorem cloned2 (v : Value) (bs : List Nat) (hlen : bs.length ≤ 140737488351232) (w : World) (hI : Bytes w.heap.size w v bs) (x0 x1 y0 y1 : Value) (t u : TypeId) :
    Calls Try.prog 57 #[v] (((w.alloc (.cells #[x0, x1] t)).alloc (.cells #[y0, y1] u)).drew) (Cloned2 w bs bs.length x0 x1 y0 y1) := by
  have hB := (((Below.refl w.heap.size w).alloc (Nat.le_refl _) (.cells #[x0, x1] t)).alloc (by simp) (.cells #[y0, y1] u)).drew
  refine (clone_calls v bs hlen _ (hI.on hB)).mono ?_
  rintro e W ⟨v', rfl, hO, hB2⟩
  obtain ⟨A, c, rfl⟩ := hO.bytes.form
  have hsz : (((w.alloc (.cells #[x0, x1] t)).alloc (.cells #[y0, y1] u)).drew).heap.size = w.heap.size + 2 := by simp
  rw [hsz] at hO hB2
  refine ⟨A, c, rfl, hO, hB.trans (hB2.mono (by omega)), by have := hB2.size; rw [hsz] at this; exact this, two2 ((hB2.block _ (by omega)).trans ((Below.heap_alloc _ _ _ (by simp)).trans (heap_alloc_new w _))), ?_⟩
  have h1 := heap_alloc_new (w.alloc (.cells #[x0, x1] t)) (.cells #[y0, y1] u)
  rw [World.size_alloc] at h1
  exact two2 ((hB2.block (w.heap.size + 1) (by omega)).trans h1)

theorem ownB_put {W : World} {base b i : Nat} {e : TypeId} {v : Value} {bs : List Nat} (h : OwnB W (base + 2) e v bs) (hb : b < base + 2) (u : Value) : OwnB (W.setCell ⟨b, i, none⟩ u) (base + 2) e v bs := by
  have hlt := h.1.lt
  refine ⟨⟨h.1.1, ?_⟩, h.2⟩
  rcases h.1.2 with h0 | ⟨g, cap, cur, rfl, h1, h2, h3⟩
  · exact .inl h0
  · exact .inr ⟨g, cap, cur, rfl, h1, (Below.heap_setCell _ _ _ _ (by show g ≠ b; omega)).trans h2, h3⟩
theorem ownB_low {W : World} {base b' : Nat} {e : TypeId} {v : Value} {bs : List Nat} (h : OwnB W base e v bs) (hb : b' ≤ base) : OwnB W b' e v bs := by
  refine ⟨⟨h.1.1, ?_⟩, h.2⟩
  rcases h.1.2 with h0 | ⟨g, cap, cur, rfl, h1, h2⟩
  · exact .inl h0
  · exact .inr ⟨g, cap, cur, rfl, by omega, h2⟩

/-- What copied leaves. -/
def Copied (w : World) (there : Bool) (bs : List Nat) (e : Ending) (W : World) : Prop := ∃ v', e = .returned (contentV there v') ∧ OwnB W w.heap.size 5 v' bs ∧ Below w.heap.size w W

set_option maxRecDepth 100000 in
set_option maxHeartbeats 2000000 in
theorem copied_calls (there : Bool) (v : Value) (bs : List Nat) (hlen : bs.length ≤ 140737488351232) (w : World) (hI : Bytes w.heap.size w v bs) :
    Calls Try.prog 44 #[contentV there v] w (Copied w there bs) := by
  obtain ⟨A, cap, rfl⟩ := hI.form
  obtain ⟨len, hl⟩ : ∃ len, bs.length = len := ⟨_, rfl⟩
  have cC := cloned2 (.slice A bs.length cap) bs hlen w hI (.bool there) (.slice A len cap) (.bool false) (.slice none 0 0) 75 75
  rw [hl] at cC ⊢
  have CC := Lib.hid cC
  clear hI cC hl
  go_enter Try.func44, Try.ntmps44
  go_wp2_with fail
  go_region_with (go_at_call 57; ((with_reducible refine CC.out.mono ?_); rintro e W2 ⟨A2, c2, rfl, hO2, hB2, hs2, ⟨q0, q1, q2, q3⟩, ⟨r0, r1, r2, r3⟩⟩; have HO2 := Lib.hid hO2; have HB2 := Lib.hid hB2; clear hO2 hB2))
  all_goals
    go_wp2_with fail
    refine bodyPost_ret (v := contentV there (.slice A2 len c2)) (by simp [results, Try.results44, go_sem, r0, r1]) rfl ?_
    have hB3 := (HB2.out.setCell (p := ⟨w.heap.size + 1, 0, none⟩) (Nat.le_succ _) (.bool there)).setCell (p := ⟨w.heap.size + 1, 1, none⟩) (Nat.le_succ _) (.slice A2 len c2)
    exact ⟨_, rfl, ownB_low (ownB_put (ownB_put HO2.out (Nat.lt_succ_self _) _) (Nat.lt_succ_self _) _) (by omega), hB3⟩

/-- What Clone leaves, a new block ahead of it. -/
def Cloned1 (w : World) (bs : List Nat) (len : Nat) (x0 x1 : Value) (e : Ending) (W : World) : Prop :=
  ∃ A c, e = .returned (.slice A len c) ∧ OwnB W (w.heap.size + 1) 5 (.slice A len c) bs ∧ Below w.heap.size w W ∧ w.heap.size + 1 ≤ W.heap.size ∧ Two2 W w.heap.size x0 x1
theorem cloned1 (v : Value) (bs : List Nat) (hlen : bs.length ≤ 140737488351232) (w : World) (hI : Bytes w.heap.size w v bs) (x0 x1 : Value) (t : TypeId) :
    Calls Try.prog 57 #[v] ((w.alloc (.cells #[x0, x1] t)).drew) (Cloned1 w bs bs.length x0 x1) := by
  have hB := ((Below.refl w.heap.size w).alloc (Nat.le_refl _) (.cells #[x0, x1] t)).drew
  refine (clone_calls v bs hlen _ (hI.on hB)).mono ?_
  rintro e W ⟨v', rfl, hO, hB2⟩
  obtain ⟨A, c, rfl⟩ := hO.bytes.form
  have hsz : ((w.alloc (.cells #[x0, x1] t)).drew).heap.size = w.heap.size + 1 := by simp
  rw [hsz] at hO hB2
  exact ⟨A, c, rfl, hO, hB.trans (hB2.mono (by omega)), by have := hB2.size; rw [hsz] at this; exact this, two2 ((hB2.block _ (by omega)).trans (heap_alloc_new w _))⟩

/-- What read leaves. -/
def ReadOut (w : World) (there : Bool) (bs : List Nat) (e : Ending) (W : World) : Prop := ∃ v', e = .returned (.tuple #[v', .bool there]) ∧ OwnB W w.heap.size 5 v' bs ∧ Below w.heap.size w W

set_option maxRecDepth 100000 in
set_option maxHeartbeats 2000000 in
theorem read_calls (there : Bool) (v : Value) (bs : List Nat) (hlen : bs.length ≤ 140737488351232) (w : World) (hI : Bytes w.heap.size w v bs) :
    Calls Try.prog 41 #[contentV there v] w (ReadOut w there bs) := by
  obtain ⟨A, cap, rfl⟩ := hI.form
  obtain ⟨len, hl⟩ : ∃ len, bs.length = len := ⟨_, rfl⟩
  have cC := cloned1 (.slice A bs.length cap) bs hlen w hI (.bool there) (.slice A len cap) 75
  rw [hl] at cC ⊢
  have CC := Lib.hid cC
  clear hI cC hl
  go_enter Try.func41, Try.ntmps41
  go_wp2_with fail
  go_region_with (go_at_call 57; ((with_reducible refine CC.out.mono ?_); rintro e W2 ⟨A2, c2, rfl, hO2, hB2, hs2, ⟨q0, q1, q2, q3⟩⟩; have HO2 := Lib.hid hO2; have HB2 := Lib.hid hB2; clear hO2 hB2))
  all_goals
    go_wp2_with fail
    go_ret2
    exact ⟨_, rfl, ownB_low HO2.out (by omega), HB2.out⟩

end Go.Proofs.Ytnjjjalenhbicaa.Disk
