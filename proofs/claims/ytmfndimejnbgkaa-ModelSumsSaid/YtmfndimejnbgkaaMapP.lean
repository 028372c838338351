/-
  A map from names to pointers to whole blocks: what it leads where; looked up, stored into, deleted from, ranged over. Of whatever program.
-/
import Derived.Maps.OwnOps
import Derived.Maps.OwnSet
import Derived.Maps.RangeWalk
import Derived.StringKeys
import Derived.Test.YtmfndimejnbgkaaOps
namespace Go.Proofs.Ytmfndimejnbgkaa.Law
open Go Go.RowKit Go.Maps Go.ChangeMaps Go.WideMaps

/-- A pointer as a value, by its block. -/
def ptrV : Option Nat → Value
  | none => .pointer none
  | some g => .pointer (some ⟨g, 0, none⟩)
/-- .. and as a datum. -/
def ptrD : Option Nat → DataW Unit
  | none => .lit (.int .u64 0)
  | some g => .lit (.int .u64 ((g : Int) + 1))
def ptrElem : Value → Option (DataW Unit × List MemPlace)
  | .pointer none => some (ptrD none, [])
  | .pointer (some ⟨g, 0, none⟩) => some (ptrD (some g), [])
  | _ => none

theorem ptrElem_mk (g : Option Nat) : ptrElem (ptrV g) = some (ptrD g, []) := by cases g <;> rfl
theorem ptrElem_inv {v : Value} {y : DataW Unit × List MemPlace} (h : ptrElem v = some y) : ∃ g, v = ptrV g ∧ y = (ptrD g, []) := by
  unfold ptrElem at h
  split at h
  · exact ⟨none, rfl, (Option.some.inj h).symm⟩
  · rename_i g; exact ⟨some g, rfl, (Option.some.inj h).symm⟩
  · cases h
theorem ptrD_inj {g g' : Option Nat} (h : ptrD g = ptrD g') : g = g' := by
  cases g with
  | none =>
    cases g' with
    | none => rfl
    | some b => simp only [ptrD, DataW.lit.injEq, Lit.int.injEq, true_and] at h; omega
  | some a =>
    cases g' with
    | none => simp only [ptrD, DataW.lit.injEq, Lit.int.injEq, true_and] at h; omega
    | some b => simp only [ptrD, DataW.lit.injEq, Lit.int.injEq, true_and] at h; congr 1; omega

def keyL (s : ByteArray) : Lit := .string s.data.toList
theorem keyL_inj {s t : ByteArray} (h : keyL s = keyL t) : s = t := by
  simp only [keyL, Lit.string.injEq] at h
  have : s.data = t.data := by
    apply Array.ext'
    exact h
  cases s; cases t
  simp only at this
  rw [this]

/-- Names that can lie in memory. -/
def Short (s : ByteArray) : Prop := s.size ≤ maxLen

/-- What the datum leads where. -/
def Leads (D : DataW Unit) (F : ByteArray → Option Nat) : Prop := ∀ s : ByteArray, Short s → D.atKey (keyL s) (ptrD none) = ptrD (F s) ∧ Maps.has D (keyL s) = (F s).isSome

/-- Block b is a map of at most n entries that leads each name where F says. -/
def MapP (P : Program) (k : TypeId) (W : World) (b n : Nat) (F : ByteArray → Option Nat) : Prop := ∃ D, W.ownsMap P k ptrElem b n D ∧ Leads D F

section
variable {P : Program} {k e t : TypeId} {W W' : World} {b n : Nat} {F : ByteArray → Option Nat}

theorem MapP.made (P : Program) (k : TypeId) (W : World) : MapP P k (W.alloc (.map #[] 0)) W.heap.size 0 (fun _ => none) :=
  ⟨.map [], World.ownsMap_made W P k ptrElem, fun _ _ => ⟨rfl, rfl⟩⟩
theorem MapP.lt (h : MapP P k W b n F) : b < W.heap.size := by obtain ⟨D, h, _⟩ := h; exact h.lt
theorem MapP.kept {row : Option Nat} (h : MapP P k W b n F) (hg : W.grownBy W' row) (hne : some b ≠ row) : MapP P k W' b n F := by
  obtain ⟨D, h, h2⟩ := h; exact ⟨D, h.kept hg hne, h2⟩
theorem MapP.at (h : MapP P k W b n F) (hb : W'.heap[b]? = W.heap[b]?) : MapP P k W' b n F := by
  obtain ⟨D, ⟨es, clock, h1, h2⟩, h3⟩ := h; exact ⟨D, ⟨es, clock, hb.trans h1, h2⟩, h3⟩

theorem MapP.look (h : MapP P k W b n F) (hk : P.underlying k = some .string) (ht : P.underlying t = some (.map k e)) (hz : (zeroValue e).run P W = .ok (.pointer none) W) {s : ByteArray} (hs : Short s) :
    (Instr.lookup t (.map (some b)) (.string s) false).run P W = .ok (ptrV (F s)) W := by
  obtain ⟨D, h, hl⟩ := h
  obtain ⟨v, ps, hrun, hv⟩ := h.lookup (string_keyed hk) ht hz (ptrElem_mk none) (keyOf_string_mk hk hs)
  obtain ⟨g, rfl, hg⟩ := ptrElem_inv hv
  simp only [Prod.mk.injEq] at hg
  have := (hl s hs).1
  unfold keyL at this
  rw [this] at hg
  rw [hrun, ptrD_inj hg.1]

theorem MapP.store (h : MapP P k W b n F) (hk : P.underlying k = some .string) (ht : P.underlying t = some (.map k e)) (hn : n < maxLen) {s : ByteArray} (hs : Short s) (g : Nat) :
    ∃ w', (Instr.mapUpdate t (.map (some b)) (.string s) (.pointer (some ⟨g, 0, none⟩))).run P W = .ok () w' ∧ MapP P k w' b (n + 1) (fun x => if x = s then some g else F x) ∧ W.grownBy w' (some b) := by
  obtain ⟨D, h, hl⟩ := h
  obtain ⟨w', hrun, h1, h2⟩ := h.update (string_keyed hk) ht hn (keyOf_string_mk hk hs) (ptrElem_mk (some g))
  refine ⟨w', hrun, ⟨_, h1, fun x hx => ?_⟩, h2⟩
  by_cases he : x = s
  · subst he
    dsimp only
    rw [if_pos rfl]
    exact ⟨atKey_put_same h.isMap (k := keyL x) trivial _ _, has_put_same h.isMap (k := keyL x) trivial _⟩
  · dsimp only
    rw [if_neg he]
    have hne : keyL x ≠ keyL s := fun e => he (keyL_inj e)
    exact ⟨(atKey_put_other hne _ _).trans (hl x hx).1, (has_put_other hne _).trans (hl x hx).2⟩

theorem MapP.drop (h : MapP P k W b n F) (hk : P.underlying k = some .string) (ht : P.underlying t = some (.map k e)) {s : ByteArray} (hs : Short s) (ty : TypeId) :
    ∃ w', (Builtin.delete_ #[t, k] ty #[.map (some b), .string s]).run P W = .ok (.tuple #[]) w' ∧ MapP P k w' b n (fun x => if x = s then none else F x) ∧ W.mapTurned w' b := by
  obtain ⟨D, h, hl⟩ := h
  obtain ⟨w', hrun, h1, h2⟩ := h.drop (string_keyed hk) ht (keyOf_string_mk hk hs) ty
  refine ⟨w', hrun, ⟨_, h1, fun x hx => ?_⟩, h2⟩
  by_cases he : x = s
  · subst he
    dsimp only
    rw [if_pos rfl]
    exact ⟨atKey_del_same _, has_del_same⟩
  · dsimp only
    rw [if_neg he]
    have hne : keyL x ≠ keyL s := fun e => he (keyL_inj e)
    exact ⟨(atKey_del_other hne _).trans (hl x hx).1, (has_del_other hne).trans (hl x hx).2⟩

/-- A range over the map under way: L tells the names that are still to come, cnt how many. -/
def RangeP (P : Program) (k : TypeId) (W : World) (b r n : Nat) (F : ByteArray → Option Nat) (L : ByteArray → Bool) (cnt : Nat) : Prop :=
  ∃ D left, W.ranges P k ptrElem b r n D left cnt ∧ Leads D F ∧ ∀ s, Short s → left (keyL s) = L s

theorem RangeP.map {r cnt : Nat} {L : ByteArray → Bool} (h : RangeP P k W b r n F L cnt) : MapP P k W b n F := by
  obtain ⟨D, left, h, hl, _⟩ := h; exact ⟨D, h.owns, hl⟩
theorem RangeP.kept {r cnt : Nat} {L : ByteArray → Bool} {row : Option Nat} (h : RangeP P k W b r n F L cnt) (hg : W.grownBy W' row) (hb : some b ≠ row) (hr : some r ≠ row) : RangeP P k W' b r n F L cnt := by
  obtain ⟨D, left, h, h2⟩ := h; exact ⟨D, left, h.kept hg hb hr, h2⟩
theorem RangeP.at {r cnt : Nat} {L : ByteArray → Bool} (h : RangeP P k W b r n F L cnt) (hb : W'.heap[b]? = W.heap[b]?) (hr : W'.heap[r]? = W.heap[r]?) : RangeP P k W' b r n F L cnt := by
  obtain ⟨D, left, ⟨es, clock, since, seen, c0, h1, h2, h3, h4, h5, h6⟩, h7⟩ := h
  exact ⟨D, left, ⟨es, clock, since, seen, c0, hb.trans h1, h2, h3, h4, hr.trans h5, h6⟩, h7⟩

theorem MapP.range (h : MapP P k W b n F) (hk : P.underlying k = some .string) (ht : P.underlying t = some (.map k e)) :
    ∃ w' cnt, (Instr.range t (.map (some b))).run P W = .ok (.pointer (some ⟨W.heap.size, 0, none⟩)) w' ∧ RangeP P k w' b W.heap.size n F (fun s => (F s).isSome) cnt ∧ W.grownBy w' none ∧ w'.heap.size = W.heap.size + 1 := by
  obtain ⟨D, h, hl⟩ := h
  obtain ⟨w', hrun, h1, h2, h3⟩ := h.range (string_keyed hk) ht
  exact ⟨w', _, hrun, ⟨D, _, h1, hl, fun s hs => (hl s hs).2⟩, h2, h3⟩

/-- The next name, if there is one. -/
theorem RangeP.next {r cnt : Nat} {L : ByteArray → Bool} (h : RangeP P k W b r n F L cnt) (hk : P.underlying k = some .string) (ty : TypeId) :
    (cnt = 0 ∧ (∀ s, Short s → L s = false) ∧ (Instr.next (.pointer (some ⟨r, 0, none⟩)) false ty).run P W = .ok (.tuple #[.bool false]) W) ∨
    ∃ s g w' cnt', Short s ∧ L s = true ∧ F s = some g ∧ (Instr.next (.pointer (some ⟨r, 0, none⟩)) false ty).run P W = .ok (.tuple #[.bool true, .string s, .pointer (some ⟨g, 0, none⟩)]) w' ∧
      RangeP P k w' b r n F (fun x => L x && !decide (x = s)) cnt' ∧ cnt' < cnt ∧ W.grownBy w' (some r) ∧ w'.heap.size = W.heap.size ∧ (Instr.entry (.pointer (some ⟨r, 0, none⟩))).run P w' = .ok (.tuple #[.string s, .pointer (some ⟨g, 0, none⟩)]) w' := by
  obtain ⟨D, left, h, hl, hL⟩ := h
  rcases h.next (string_keyed hk) ty with ⟨h0, hn, hrun⟩ | ⟨key, v, kl, y, w', cnt', hkey, hlk, hv, hat, hrun, hrg, hlt, hgr, hsz, hen⟩
  · exact .inl ⟨h0, fun s hs => (hL s hs).symm.trans (hn _), hrun⟩
  · obtain ⟨s, rfl, rfl, hs⟩ := string_of_keyOf hk hkey
    obtain ⟨g, rfl, rfl⟩ := ptrElem_inv hv
    have hF : ptrD (F s) = ptrD g := (hl s hs).1.symm.trans (hat _)
    have hF2 := ptrD_inj hF
    have hhas : (F s).isSome = true := (hl s hs).2.symm.trans (has_true_of_atKey hat)
    rw [hF2] at hhas
    cases g with
    | none => cases hhas
    | some g =>
      refine .inr ⟨s, g, w', cnt', hs, (hL s hs).symm.trans hlk, hF2, hrun, ⟨D, _, hrg, hl, fun x hx => ?_⟩, hlt, hgr, hsz, hen⟩
      dsimp only
      rw [hL x hx]
      congr 2
      by_cases he : x = s
      · subst he
        rw [decide_eq_true rfl]
        exact WideAt.sameKey_self (a := keyL x) trivial
      · rw [decide_eq_false he]
        exact sameKey_ne (fun e => he (keyL_inj e))

/-- The name that came last is deleted in the round. -/
theorem RangeP.drop {r cnt : Nat} {L : ByteArray → Bool} (h : RangeP P k W b r n F L cnt) (hk : P.underlying k = some .string) (ht : P.underlying t = some (.map k e)) {s : ByteArray} (hs : Short s) (ty : TypeId) :
    ∃ w' cnt', (Builtin.delete_ #[t, k] ty #[.map (some b), .string s]).run P W = .ok (.tuple #[]) w' ∧ RangeP P k w' b r n (fun x => if x = s then none else F x) (fun x => L x && !decide (x = s)) cnt' ∧ cnt' ≤ cnt ∧ W.mapTurned w' b := by
  obtain ⟨D, left, h, hl, hL⟩ := h
  obtain ⟨w', cnt', hrun, h1, h2, h3⟩ := h.drop (string_keyed hk) ht (keyOf_string_mk hk hs) ty
  refine ⟨w', cnt', hrun, ⟨_, _, h1, fun x hx => ?_, fun x hx => ?_⟩, h2, h3⟩
  · by_cases he : x = s
    · subst he
      dsimp only
      rw [if_pos rfl]
      exact ⟨atKey_del_same _, has_del_same⟩
    · dsimp only
      rw [if_neg he]
      have hne : keyL x ≠ keyL s := fun e => he (keyL_inj e)
      exact ⟨(atKey_del_other hne _).trans (hl x hx).1, (has_del_other hne).trans (hl x hx).2⟩
  · dsimp only
    rw [hL x hx]
    congr 2
    by_cases he : x = s
    · subst he
      rw [decide_eq_true rfl]
      exact WideAt.sameKey_self (a := keyL x) trivial
    · rw [decide_eq_false he]
      exact sameKey_ne (fun e => he (keyL_inj e))

end

/-- An operation whose run is known and that yields a value, as a step of the walk. -/
theorem wpList_exec_ran {P : Program} {ops : Array Oper} {rest : List Oper} {o : Oper} {a : Act} {w w' : World} {Q : Exit → Act → World → Prop} (hgd : Region.wanted o (yielded ops a.tmps) = true) {v : Value}
    (hrun : (execOp a.eval o).run P w = .ok (.value v) w') (h : wpList P ops Q rest (a.put o.dst v) w') : wpList P ops Q (o :: rest) a w := by
  refine wpList_step fun K hK => ?_
  rw [if_pos hgd]
  unfold Oper.wp
  rw [hrun]
  exact hK _ _ h
theorem wpList_lookup_ran {P : Program} {ops : Array Oper} {rest : List Oper} {o : Oper} {a : Act} {w : World} {Q : Exit → Act → World → Prop} (hgd : Region.wanted o (yielded ops a.tmps) = true) (t : TypeId) (m x : Operand) (c : Bool)
    (ho : o.op = .lookup t m x c) {mv xv v : Value} (hm : a.eval m = mv) (hx : a.eval x = xv) (hrun : (Instr.lookup t mv xv c).run P w = .ok v w) (h : wpList P ops Q rest (a.put o.dst v) w) : wpList P ops Q (o :: rest) a w := by
  refine wpList_exec_ran hgd (v := v) (w' := w) ?_ h
  unfold execOp
  simp only [ho, hm, hx, Sem.run_bind, Sem.run_pure, hrun, Result.andThen_ok]

end Go.Proofs.Ytmfndimejnbgkaa.Law
