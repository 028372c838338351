/-
  A map whose keys are texts or ints and whose values may be whatever: what it leads where; looked up (with and without 'ok'), stored into, measured, ranged over. Of whatever program.
-/
import Derived.Maps.OwnOps
import Derived.Maps.OwnSet
import Derived.Maps.RangeWalk
import Derived.StringKeys
import Derived.Sort.KeysCollected
import Derived.Test.YtmfndimejnbgkaaMapOps
namespace Go.Proofs.Ytmfndimejnbgkaa.Law
open Go Go.RowKit Go.Maps Go.ChangeMaps Go.WideMaps

/-- Keys of one type, as values and as data. -/
structure KeyK (P : Program) (k : TypeId) (κ : Type) where
  kv : κ → Value
  kl : κ → Lit
  ok : κ → Prop
  keyed : Keyed P k
  key : ∀ x, ok x → keyOf P k (kv x) = some (kl x)
  inv : ∀ v l, keyOf P k v = some l → ∃ x, v = kv x ∧ l = kl x ∧ ok x
  inj : ∀ x y, kl x = kl y → x = y
  isKey : ∀ x, WideAt.IsKeyLit (kl x)

/-- Texts. -/
def strK {P : Program} {k : TypeId} (hk : P.underlying k = some .string) : KeyK P k ByteArray where
  kv := Value.string
  kl := keyL
  ok := Short
  keyed := string_keyed hk
  key := fun _ h => keyOf_string_mk hk h
  inv := fun _ _ h => string_of_keyOf hk h
  inj := fun _ _ h => keyL_inj h
  isKey := fun _ => trivial
/-- Ints. -/
def intK {P : Program} {k : TypeId} (hk : P.underlying k = some (.int .i64)) : KeyK P k Int where
  kv := Value.int .i64
  kl := Lit.int .i64
  ok := fun x => (Lit.int .i64 x).wf = true
  keyed := int_keyed hk
  key := fun _ h => keyOf_int_mk hk h
  inv := fun _ _ h => Maps.keyOf_int_inv hk h
  inj := fun _ _ h => by simpa using h
  isKey := fun _ => trivial

def readV (v : Value) : Option (DataW Value × List MemPlace) := some (.held v, [])

section
variable {P : Program} {k e t : TypeId} {κ : Type} {W W' : World} {b n : Nat}

/-- What the datum leads where. -/
def LeadsV (K : KeyK P k κ) (D : DataW Value) (F : κ → Option Value) : Prop := ∀ s, K.ok s → (∀ z, D.atKey (K.kl s) (.held z) = .held ((F s).getD z)) ∧ Maps.has D (K.kl s) = (F s).isSome
/-- Block b is a map of at most n entries that leads each key where F says. -/
def MapV (K : KeyK P k κ) (W : World) (b n : Nat) (F : κ → Option Value) : Prop := ∃ D, W.ownsMap P k readV b n D ∧ LeadsV K D F

variable {K : KeyK P k κ} {F : κ → Option Value}
theorem MapV.made (K : KeyK P k κ) (W : World) : MapV K (W.alloc (.map #[] 0)) W.heap.size 0 (fun _ => none) :=
  ⟨.map [], World.ownsMap_made W P k readV, fun _ _ => ⟨fun _ => rfl, rfl⟩⟩
theorem MapV.lt (h : MapV K W b n F) : b < W.heap.size := by obtain ⟨D, h, _⟩ := h; exact h.lt
theorem MapV.kept {row : Option Nat} (h : MapV K W b n F) (hg : W.grownBy W' row) (hne : some b ≠ row) : MapV K W' b n F := by
  obtain ⟨D, h, h2⟩ := h; exact ⟨D, h.kept hg hne, h2⟩
theorem MapV.at (h : MapV K W b n F) (hb : W'.heap[b]? = W.heap[b]?) : MapV K W' b n F := by
  obtain ⟨D, ⟨es, clock, h1, h2⟩, h3⟩ := h; exact ⟨D, ⟨es, clock, hb.trans h1, h2⟩, h3⟩
theorem MapV.below (h : MapV K W b n F) (hB : Below W.heap.size W W') : MapV K W' b n F := h.at (hB.block b h.lt)
theorem MapV.isMap (h : MapV K W b n F) : ∃ a c, W.heap[b]? = some (.map a c) := by
  obtain ⟨D, ⟨es, clock, h1, _⟩, _⟩ := h
  exact ⟨_, _, h1⟩
theorem MapV.mono (h : MapV K W b n F) {m : Nat} (hm : n ≤ m) : MapV K W b m F := by obtain ⟨D, h, h2⟩ := h; exact ⟨D, h.mono hm, h2⟩
theorem MapV.same (h : MapV K W b n F) {G : κ → Option Value} (hG : ∀ s, K.ok s → F s = G s) : MapV K W b n G := by
  obtain ⟨D, h, h2⟩ := h
  exact ⟨D, h, fun s hs => by rw [← hG s hs]; exact h2 s hs⟩

theorem MapV.look (h : MapV K W b n F) (ht : P.underlying t = some (.map k e)) {z : Value} (hz : (zeroValue e).run P W = .ok z W) {s : κ} (hs : K.ok s) :
    (Instr.lookup t (.map (some b)) (K.kv s) false).run P W = .ok ((F s).getD z) W := by
  obtain ⟨D, h, hl⟩ := h
  obtain ⟨v, ps, hrun, hv⟩ := h.lookup K.keyed ht hz (R := readV) rfl (K.key s hs)
  simp only [readV, Option.some.injEq, Prod.mk.injEq, (hl s hs).1, DataW.held.injEq] at hv
  rw [hrun, hv.1]
theorem MapV.lookOk (h : MapV K W b n F) (ht : P.underlying t = some (.map k e)) {z : Value} (hz : (zeroValue e).run P W = .ok z W) {s : κ} (hs : K.ok s) :
    (Instr.lookup t (.map (some b)) (K.kv s) true).run P W = .ok (.tuple #[(F s).getD z, .bool (F s).isSome]) W := by
  obtain ⟨D, h, hl⟩ := h
  obtain ⟨v, ps, hrun, hv⟩ := h.look_ok K.keyed ht hz (R := readV) rfl (K.key s hs)
  simp only [readV, Option.some.injEq, Prod.mk.injEq, (hl s hs).1, DataW.held.injEq] at hv
  rw [hrun, hv.1, (hl s hs).2]
theorem MapV.store [DecidableEq κ] (h : MapV K W b n F) (ht : P.underlying t = some (.map k e)) (hn : n < maxLen) {s : κ} (hs : K.ok s) (v : Value) :
    ∃ w', (Instr.mapUpdate t (.map (some b)) (K.kv s) v).run P W = .ok () w' ∧ MapV K w' b (n + 1) (fun x => if x = s then some v else F x) ∧ W.grownBy w' (some b) ∧ w'.heap.size = W.heap.size := by
  obtain ⟨D, h, hl⟩ := h
  obtain ⟨w', hrun, h1, h2⟩ := h.store (val := v) K.keyed ht hn (K.key s hs) rfl
  obtain ⟨es, c, es', c', _, h3⟩ := id h2
  refine ⟨w', hrun, ⟨_, h1, fun x hx => ?_⟩, h2.grown, by rw [h3]; simp [setBlock]⟩
  by_cases he : x = s
  · subst he
    dsimp only
    rw [if_pos rfl]
    exact ⟨fun z => atKey_put_same h.isMap (K.isKey x) _ _, has_put_same h.isMap (K.isKey x) _⟩
  · dsimp only
    rw [if_neg he]
    have hne : K.kl x ≠ K.kl s := fun e => he (K.inj _ _ e)
    exact ⟨fun z => (atKey_put_other hne _ _).trans ((hl x hx).1 z), (has_put_other hne _).trans (hl x hx).2⟩
theorem MapV.len (h : MapV K W b n F) (ht : P.underlying t = some (.map k e)) : ∃ m : Nat, m ≤ n ∧ ∀ ty, (Builtin.len_ #[t] ty #[.map (some b)]).run P W = .ok (.int .i64 (m : Nat)) W := by
  obtain ⟨D, h, _⟩ := h
  exact ⟨Maps.size D, h.size_le, fun ty => h.len ht ty⟩

/-- A list without one of its members. -/
def cut [DecidableEq κ] (l : List κ) (s : κ) : List κ := l.erase s
theorem mem_cut [DecidableEq κ] {l : List κ} (h : l.Nodup) {s x : κ} : x ∈ cut l s ↔ x ≠ s ∧ x ∈ l := h.mem_erase_iff
theorem cut_nodup [DecidableEq κ] {l : List κ} (h : l.Nodup) (s : κ) : (cut l s).Nodup := h.erase _
theorem cut_length [DecidableEq κ] {l : List κ} {s : κ} (h : s ∈ l) : (cut l s).length + 1 = l.length := by
  have h1 := List.length_erase_of_mem h
  have h2 := List.length_pos_of_mem h
  unfold cut
  omega

/-- A range over the map under way: rest are the keys that are still to come, cnt how many. -/
def RngV [DecidableEq κ] (K : KeyK P k κ) (W : World) (b r n : Nat) (F : κ → Option Value) (rest : List κ) (cnt : Nat) : Prop :=
  ∃ D left, W.ranges P k readV b r n D left cnt ∧ LeadsV K D F ∧ (∀ s, K.ok s → left (K.kl s) = decide (s ∈ rest)) ∧ rest.Nodup ∧ ∀ s ∈ rest, K.ok s
variable [DecidableEq κ] {r cnt : Nat} {rest : List κ}
theorem RngV.left (h : RngV K W b r n F rest cnt) : W.rangeLeft b r = cnt := by obtain ⟨D, left, h, _⟩ := h; exact h.left_eq
theorem RngV.map (h : RngV K W b r n F rest cnt) : MapV K W b n F := by obtain ⟨D, left, h, hl, _⟩ := h; exact ⟨D, h.owns, hl⟩
theorem RngV.kept {row : Option Nat} (h : RngV K W b r n F rest cnt) (hg : W.grownBy W' row) (hb : some b ≠ row) (hr : some r ≠ row) : RngV K W' b r n F rest cnt := by
  obtain ⟨D, left, h, h2⟩ := h; exact ⟨D, left, h.kept hg hb hr, h2⟩
theorem RngV.at (h : RngV K W b r n F rest cnt) (hb : W'.heap[b]? = W.heap[b]?) (hr : W'.heap[r]? = W.heap[r]?) : RngV K W' b r n F rest cnt := by
  obtain ⟨D, left, ⟨es, clock, since, seen, c0, h1, h2, h3, h4, h5, h6⟩, h7⟩ := h
  exact ⟨D, left, ⟨es, clock, since, seen, c0, hb.trans h1, h2, h3, h4, hr.trans h5, h6⟩, h7⟩
theorem RngV.iterLt (h : RngV K W b r n F rest cnt) : r < W.heap.size := by obtain ⟨D, left, h, _⟩ := h; exact h.lt
theorem RngV.mapLt (h : RngV K W b r n F rest cnt) : b < W.heap.size := h.map.lt
theorem RngV.ne (h : RngV K W b r n F rest cnt) : r ≠ b := by obtain ⟨D, left, h, _⟩ := h; exact h.ne

theorem MapV.rng (h : MapV K W b n F) (ht : P.underlying t = some (.map k e)) (names : List κ) (hn : names.Nodup) (hs : ∀ s ∈ names, K.ok s) (hd : ∀ s, K.ok s → ((F s).isSome ↔ s ∈ names)) :
    ∃ w' cnt, (Instr.range t (.map (some b))).run P W = .ok (.pointer (some ⟨W.heap.size, 0, none⟩)) w' ∧ RngV K w' b W.heap.size n F names cnt ∧ W.grownBy w' none ∧ w'.heap.size = W.heap.size + 1 := by
  obtain ⟨D, h, hl⟩ := h
  obtain ⟨w', hrun, h1, h2, h3⟩ := h.range K.keyed ht
  refine ⟨w', _, hrun, ⟨D, _, h1, hl, fun s hs' => ?_, hn, hs⟩, h2, h3⟩
  rw [(hl s hs').2, Bool.eq_iff_iff]
  simpa using hd s hs'

/-- The next key, if there is one. -/
theorem RngV.next (h : RngV K W b r n F rest cnt) (ty : TypeId) :
    (rest = [] ∧ (Instr.next (.pointer (some ⟨r, 0, none⟩)) false ty).run P W = .ok (.tuple #[.bool false]) W) ∨
    ∃ s v w' cnt', s ∈ rest ∧ K.ok s ∧ F s = some v ∧ (Instr.next (.pointer (some ⟨r, 0, none⟩)) false ty).run P W = .ok (.tuple #[.bool true, K.kv s, v]) w' ∧
      RngV K w' b r n F (cut rest s) cnt' ∧ cnt' < cnt ∧ W.grownBy w' (some r) ∧ w'.heap.size = W.heap.size ∧ (Instr.entry (.pointer (some ⟨r, 0, none⟩))).run P w' = .ok (.tuple #[K.kv s, v]) w' := by
  obtain ⟨D, left, h, hl, hL, hn, hs⟩ := h
  rcases h.next K.keyed ty with ⟨_, h0, hrun⟩ | ⟨key, v, kl, y, w', cnt', hkey, hlk, hv, hat, hrun, hrg, hlt, hgr, hsz, hen⟩
  · refine .inl ⟨?_, hrun⟩
    cases rest with
    | nil => rfl
    | cons a l =>
      have h1 := hL a (hs a (by simp))
      rw [h0] at h1
      simp at h1
  · obtain ⟨s, rfl, rfl, hok⟩ := K.inv _ _ hkey
    have hy : y = (.held v, []) := (Option.some.inj hv).symm
    have hhas : (F s).isSome = true := (hl s hok).2.symm.trans (has_true_of_atKey hat)
    obtain ⟨v', hF⟩ := Option.isSome_iff_exists.1 hhas
    have h2 := (hl s hok).1 v
    rw [hat, hy, hF] at h2
    obtain rfl : v = v' := by simpa using h2
    have hmem : s ∈ rest := by
      have := hL s hok
      rw [hlk] at this
      simpa using this.symm
    refine .inr ⟨s, v, w', cnt', hmem, hok, hF, hrun, ⟨D, _, hrg, hl, fun x hx => ?_, cut_nodup hn _, fun x hx => hs x ((mem_cut hn).1 hx).2⟩, hlt, hgr, hsz, hen⟩
    rw [hL x hx, Bool.eq_iff_iff]
    simp only [Bool.and_eq_true, decide_eq_true_eq, Bool.not_eq_true', mem_cut hn]
    have hsame : (K.kl x).sameKey (K.kl s) = false ↔ x ≠ s := by
      constructor
      · rintro h rfl
        rw [WideAt.sameKey_self (K.isKey x)] at h
        cases h
      · exact fun hne => sameKey_ne fun e => hne (K.inj _ _ e)
    rw [hsame]
    exact and_comm
end

end Go.Proofs.Ytmfndimejnbgkaa.Law
