/-
  Graphs as plain data: what an operator is, when it is right, what Check says, who uses an operator, what leads where. Plain definitions and facts, of no program.
-/
namespace Go.Proofs.Ytmfndimejnbgkaa.Graph

/-- A proposition as a Bool. -/
noncomputable def bP (p : Prop) : Bool := @decide p (Classical.propDecidable p)
theorem bP_true {p : Prop} (h : p) : bP p = true := @decide_eq_true p (Classical.propDecidable p) h
theorem bP_false {p : Prop} (h : ¬ p) : bP p = false := @decide_eq_false p (Classical.propDecidable p) h
theorem bP_iff {p : Prop} : bP p = true ↔ p := @decide_eq_true_iff p (Classical.propDecidable p)
structure Opr where
  kind : Int
  ins : List Int
  arg : Int
  num : Nat
  rounds : Int
  test : Int
  lim : Nat
/-- Ints are ints, and what lies in memory is no longer than memory. -/
def i64 (n : Int) : Prop := -9223372036854775808 ≤ n ∧ n ≤ 9223372036854775807
def Opr.wf (x : Opr) : Prop := i64 x.kind ∧ (∀ y ∈ x.ins, i64 y) ∧ i64 x.arg ∧ x.num < 4294967296 ∧ i64 x.rounds ∧ i64 x.test ∧ x.lim < 4294967296 ∧ x.ins.length * 8 ≤ 140737488351232
theorem opr_ext {x y : Opr} (h1 : x.kind = y.kind) (h2 : x.arg = y.arg) (h3 : x.num = y.num) (h4 : x.rounds = y.rounds) (h5 : x.test = y.test) (h6 : x.lim = y.lim) (h7 : x.ins = y.ins) : x = y := by
  cases x; cases y
  simp only at h1 h2 h3 h4 h5 h6 h7
  subst h1 h2 h3 h4 h5 h6 h7
  rfl
theorem take_snoc {α : Type} {l : List α} {k : Nat} {x : α} (h : l[k]? = some x) : l.take (k + 1) = l.take k ++ [x] := by
  have hk : k < l.length := (List.getElem?_eq_some_iff.1 h).1
  rw [List.take_succ_eq_append_getElem hk]
  rw [List.getElem?_eq_getElem hk, Option.some.injEq] at h
  rw [h]
theorem exB (p : Prop) : ∃ g : Bool, g = true ↔ p := ⟨bP p, bP_iff⟩
theorem b_false {g : Bool} {p : Prop} (hg : g = true ↔ p) (h : ¬ p) : g = false := by
  cases g with
  | false => rfl
  | true => exact absurd (hg.1 rfl) h

/-- How many inputs a kind has. -/
def wantN (k : Int) : Int := if k = 1 then 0 else if k = 5 ∨ k = 6 then 2 else 1
def insP (x : Opr) (k : Int) : Prop := (x.ins.length : Int) = wantN x.kind ∧ ∀ y ∈ x.ins, 0 ≤ y ∧ y < k
def argP (x : Opr) : Prop :=
  (x.kind = 1 ∧ -1 ≤ x.arg ∧ x.arg < 8) ∨ ((x.kind = 2 ∨ x.kind = 7) ∧ 0 ≤ x.arg ∧ x.arg < 6) ∨ (x.kind = 3 ∧ 0 ≤ x.arg ∧ x.arg < 4) ∨
  ((x.kind = 4 ∨ x.kind = 5) ∧ 0 ≤ x.arg ∧ x.arg < 7) ∨ ((x.kind = 6 ∨ x.kind = 8) ∧ x.arg = 0)
def takesP (k : Int) : Prop := k = 2 ∨ k = 3 ∨ k = 7
def loopP (x : Opr) : Prop := (x.kind ≠ 7 ∧ x.rounds = 0 ∧ x.test = 0 ∧ x.lim = 0) ∨ (x.kind = 7 ∧ 1 ≤ x.rounds ∧ x.rounds ≤ 16 ∧ 0 ≤ x.test ∧ x.test < 4)
def formP (x : Opr) : Prop := argP x ∧ (x.num = 0 ∨ takesP x.kind) ∧ loopP x
/-- Is it right, as number k, where the last one's number is m? -/
def okP (x : Opr) (k m : Int) : Prop := (x.kind = 8 ↔ k = m) ∧ insP x k ∧ formP x
def okAt (l : List Opr) (k : Nat) : Prop := ∀ x, l[k]? = some x → okP x k ((l.length : Int) - 1)
/-- What Check says. -/
def Chk (l : List Opr) (i e : Int) : Prop :=
  ((l.length = 0 ∨ 16 < l.length) ∧ i = 0 ∧ e = 2) ∨
  (1 ≤ l.length ∧ l.length ≤ 16 ∧ ((∃ k : Nat, k < l.length ∧ (∀ j, j < k → okAt l j) ∧ ¬ okAt l k ∧ i = k ∧ e = 13) ∨ ((∀ j, j < l.length → okAt l j) ∧ i = 0 ∧ e = 0)))
def goodG (l : List Opr) : Prop := 1 ≤ l.length ∧ l.length ≤ 16 ∧ ∀ j, j < l.length → okAt l j

theorem Chk.uniq {l : List Opr} {i e i' e' : Int} (h : Chk l i e) (h' : Chk l i' e') : i = i' ∧ e = e' := by
  rcases h with ⟨h1, rfl, rfl⟩ | ⟨h1, h2, h3⟩
  · rcases h' with ⟨_, rfl, rfl⟩ | ⟨h1', h2', h3'⟩
    · exact ⟨rfl, rfl⟩
    · clear h3'; omega
  · rcases h' with ⟨h1', _⟩ | ⟨_, _, h3'⟩
    · clear h3; omega
    · rcases h3 with ⟨k, hk, hb, hn, rfl, rfl⟩ | ⟨ha, rfl, rfl⟩
      · rcases h3' with ⟨k', hk', hb', hn', rfl, rfl⟩ | ⟨ha', rfl, rfl⟩
        · have h4 : k = k' := by
            rcases Nat.lt_trichotomy k k' with h | h | h
            · exact absurd (hb' k h) hn
            · exact h
            · exact absurd (hb k' h) hn'
          subst h4
          exact ⟨rfl, rfl⟩
        · exact absurd (ha' k hk) hn
      · rcases h3' with ⟨k', hk', hb', hn', rfl, rfl⟩ | ⟨ha', rfl, rfl⟩
        · exact absurd (ha k' hk') hn'
        · exact ⟨rfl, rfl⟩
theorem Chk.good {l : List Opr} {i e : Int} (h : Chk l i e) : e = 0 ↔ goodG l := by
  rcases h with ⟨h1, rfl, rfl⟩ | ⟨h1, h2, h3⟩
  · exact ⟨fun h => absurd h (by decide), fun h => by have := h.1; have := h.2.1; omega⟩
  · rcases h3 with ⟨k, hk, hb, hn, rfl, rfl⟩ | ⟨ha, rfl, rfl⟩
    · exact ⟨fun h => absurd h (by decide), fun h => absurd (h.2.2 k hk) hn⟩
    · exact ⟨fun _ => ⟨h1, h2, ha⟩, fun _ => rfl⟩
theorem Chk.err {l : List Opr} {i e : Int} (h : Chk l i e) : e = 0 ∨ e = 2 ∨ e = 13 := by
  rcases h with ⟨h1, rfl, rfl⟩ | ⟨h1, h2, ⟨k, hk, hb, hn, rfl, rfl⟩ | ⟨ha, rfl, rfl⟩⟩
  · exact .inr (.inl rfl)
  · exact .inr (.inr rfl)
  · exact .inl rfl
theorem okP_at {l : List Opr} {k : Nat} {x : Opr} (h : l[k]? = some x) : okAt l k ↔ okP x k ((l.length : Int) - 1) :=
  ⟨fun h0 => h0 x h, fun h0 y hy => by obtain rfl := Option.some.inj (h.symm.trans hy); exact h0⟩

theorem goodG.ins {l : List Opr} (h : goodG l) {k : Nat} {x : Opr} (hx : l[k]? = some x) : x.ins.length ≤ 2 ∧ ∀ y ∈ x.ins, 0 ≤ y ∧ y < (k : Int) := by
  have hk : k < l.length := (List.getElem?_eq_some_iff.1 hx).1
  have h1 := (h.2.2 k hk x hx).2.1
  refine ⟨?_, h1.2⟩
  have h2 := h1.1
  unfold wantN at h2
  split at h2
  · omega
  · split at h2 <;> omega

end Go.Proofs.Ytmfndimejnbgkaa.Graph
