/-
  Plain facts on the folds: what Start, Join, Map, Test and All are as functions of numbers; All does not hang on the order or the grouping of its values; the document's bit by bit reckoning. No program is imported.
-/
namespace Go.Proofs.Ytmfndimejnbgkaa.Fold

/-- Start. -/
def stN (x : Int) (v : Nat) : Nat := if x < 0 ∨ 6 < x then 0 else if x = 1 then 1 else v
/-- Join. -/
def jnN (x : Int) (a b : Nat) : Nat :=
  if x = 0 ∨ x = 1 then (a + b) % 4294967296 else if x = 2 then max a b else if x = 3 then min a b else if x = 4 then a ^^^ b else if x = 5 then a &&& b else if x = 6 then a ||| b else 0
/-- Map. -/
def mpN (x : Int) (n v : Nat) : Nat :=
  if x = 0 then (v + n) % 4294967296 else if x = 1 then v * n % 4294967296 else if x = 2 then v ^^^ n else if x = 3 then v / 2 ^ (n % 32) else if x = 4 then n else if x = 5 then (v * v + n) % 4294967296 else 0
/-- Test. -/
def tsN (x : Int) (n v : Nat) : Bool :=
  if x = 0 then decide (v < n) else if x = 1 then decide (n ≤ v) else if x = 2 then decide (v &&& n ≠ 0) else if x = 3 then decide (n ≠ 0 ∧ v % n = 0) else false

theorem stN_lt (x : Int) (v : Nat) (h : v < 4294967296) : stN x v < 4294967296 := by
  unfold stN; split
  · omega
  · split <;> omega
theorem jnN_lt (x : Int) (a b : Nat) (ha : a < 4294967296) (hb : b < 4294967296) : jnN x a b < 4294967296 := by
  unfold jnN
  have h1 : a ^^^ b < 2 ^ 32 := Nat.xor_lt_two_pow (n := 32) (by omega) (by omega)
  have h2 : a &&& b < 2 ^ 32 := Nat.and_lt_two_pow (n := 32) a (by omega)
  have h3 : a ||| b < 2 ^ 32 := Nat.or_lt_two_pow (n := 32) (by omega) (by omega)
  split
  · omega
  · split
    · omega
    · split
      · omega
      · split
        · omega
        · split
          · omega
          · split <;> omega
theorem jnN_comm (x : Int) (a b : Nat) : jnN x a b = jnN x b a := by
  unfold jnN
  rw [Nat.add_comm a b, Nat.max_comm a b, Nat.min_comm a b, Nat.xor_comm a b, Nat.and_comm a b, Nat.or_comm a b]
theorem jnN_assoc (x : Int) (a b c : Nat) : jnN x (jnN x a b) c = jnN x a (jnN x b c) := by
  unfold jnN
  by_cases h0 : x = 0 ∨ x = 1
  · simp only [if_pos h0]; omega
  by_cases h2 : x = 2
  · simp only [if_neg h0, if_pos h2]; exact Nat.max_assoc a b c
  by_cases h3 : x = 3
  · simp only [if_neg h0, if_neg h2, if_pos h3]; exact Nat.min_assoc a b c
  by_cases h4 : x = 4
  · simp only [if_neg h0, if_neg h2, if_neg h3, if_pos h4]; exact Nat.xor_assoc a b c
  by_cases h5 : x = 5
  · simp only [if_neg h0, if_neg h2, if_neg h3, if_neg h4, if_pos h5]; exact Nat.and_assoc a b c
  by_cases h6 : x = 6
  · simp only [if_neg h0, if_neg h2, if_neg h3, if_neg h4, if_neg h5, if_pos h6]; exact Nat.or_assoc a b c
  simp only [if_neg h0, if_neg h2, if_neg h3, if_neg h4, if_neg h5, if_neg h6]

/-- Two values, either of which may be none. -/
def oj (x : Int) : Option Nat → Option Nat → Option Nat
  | none, b => b
  | some a, none => some a
  | some a, some b => some (jnN x a b)
theorem oj_none (x : Int) (a : Option Nat) : oj x a none = a := by cases a <;> rfl
theorem oj_comm (x : Int) (a b : Option Nat) : oj x a b = oj x b a := by
  match a, b with
  | none, none => rfl
  | none, some _ => rfl
  | some _, none => rfl
  | some a, some b => show some _ = some _; rw [jnN_comm]
theorem oj_assoc (x : Int) (a b c : Option Nat) : oj x (oj x a b) c = oj x a (oj x b c) := by
  cases a <;> cases b <;> cases c <;> simp [oj, jnN_assoc]
/-- All of a list. -/
def foO (x : Int) : List Nat → Option Nat
  | [] => none
  | v :: r => oj x (some (stN x v)) (foO x r)
theorem foO_append (x : Int) : ∀ a b : List Nat, foO x (a ++ b) = oj x (foO x a) (foO x b)
  | [], b => rfl
  | v :: r, b => by
    show oj x (some (stN x v)) (foO x (r ++ b)) = oj x (oj x (some (stN x v)) (foO x r)) (foO x b)
    rw [foO_append x r b, oj_assoc]
theorem foO_perm (x : Int) {a b : List Nat} (h : a.Perm b) : foO x a = foO x b := by
  induction h with
  | nil => rfl
  | cons v _ ih => show oj x _ _ = oj x _ _; rw [ih]
  | swap u v l =>
    show oj x _ (oj x _ _) = oj x _ (oj x _ _)
    rw [← oj_assoc, ← oj_assoc, oj_comm x (some (stN x v))]
  | trans _ _ h1 h2 => exact h1.trans h2
theorem foO_cons (x : Int) (v : Nat) (r : List Nat) : ∃ y, foO x (v :: r) = some y := by
  show ∃ y, oj x (some (stN x v)) (foO x r) = some y
  cases foO x r with
  | none => exact ⟨_, rfl⟩
  | some b => exact ⟨_, rfl⟩
theorem foO_snoc (x : Int) (l : List Nat) (v y : Nat) (h : foO x l = some y) : foO x (l ++ [v]) = some (jnN x y (stN x v)) := by
  rw [foO_append, h]; rfl
theorem foO_front (x : Int) (l : List Nat) (v y : Nat) (h : foO x l = some y) : foO x (v :: l) = some (jnN x (stN x v) y) := by
  show oj x _ (foO x l) = _
  rw [h]; rfl
theorem foO_lt (x : Int) : ∀ (l : List Nat) (y : Nat), (∀ v ∈ l, v < 4294967296) → foO x l = some y → y < 4294967296
  | [], y, _, h => by cases h
  | v :: r, y, hl, h => by
    have h0 := stN_lt x v (hl v (List.mem_cons_self ..))
    have h' : oj x (some (stN x v)) (foO x r) = some y := h
    match hr : foO x r with
    | none => rw [hr] at h'; simp only [oj, Option.some.injEq] at h'; omega
    | some b =>
      rw [hr] at h'; simp only [oj, Option.some.injEq] at h'
      have := jnN_lt x (stN x v) b h0 (foO_lt x r b (fun u hu => hl u (List.mem_cons_of_mem _ hu)) hr)
      omega

/-- What All answers. -/
def isF (x : Int) : Bool := decide (0 ≤ x ∧ x < 7)
def alN (x : Int) (l : List Nat) : Nat × Bool := if isF x then (match foO x l with | some y => (y, true) | none => (0, false)) else (0, false)
theorem alN_perm (x : Int) {a b : List Nat} (h : a.Perm b) : alN x a = alN x b := by unfold alN; rw [foO_perm x h]
theorem alN_lt (x : Int) (l : List Nat) (h : ∀ v ∈ l, v < 4294967296) : (alN x l).1 < 4294967296 := by
  unfold alN
  split
  · match hr : foO x l with
    | none => simp
    | some y => exact foO_lt x l y h hr
  · simp

/-- One bit of two bits' sum. -/
def bit1 (one two : Bool) (n : Nat) : Nat := if n = 1 ∧ one ∨ n = 2 ∧ two then 1 else 0
/-- The first k bits, one by one. -/
def bitsN (one two : Bool) (a b : Nat) : Nat → Nat
  | 0 => 0
  | k + 1 => bitsN one two a b k + 2 ^ k * bit1 one two (a / 2 ^ k % 2 + b / 2 ^ k % 2)
theorem bit1_le (one two : Bool) (n : Nat) : bit1 one two n ≤ 1 := by unfold bit1; split <;> omega
theorem bitsN_lt (one two : Bool) (a b : Nat) : ∀ k, bitsN one two a b k < 2 ^ k
  | 0 => by simp [bitsN]
  | k + 1 => by
    have h := bitsN_lt one two a b k
    have h1 := bit1_le one two (a / 2 ^ k % 2 + b / 2 ^ k % 2)
    have h2 : 2 ^ k * bit1 one two (a / 2 ^ k % 2 + b / 2 ^ k % 2) ≤ 2 ^ k * 1 := Nat.mul_le_mul_left _ h1
    have h3 : 2 ^ (k + 1) = 2 ^ k * 2 := Nat.pow_succ ..
    simp only [bitsN]
    omega
theorem bitsN_of (one two : Bool) (a b c : Nat) (hc : ∀ k, c / 2 ^ k % 2 = bit1 one two (a / 2 ^ k % 2 + b / 2 ^ k % 2)) : ∀ k, bitsN one two a b k = c % 2 ^ k
  | 0 => by simp [bitsN, Nat.mod_one]
  | k + 1 => by
    simp only [bitsN]
    rw [bitsN_of one two a b c hc k, ← hc k, Nat.pow_succ, Nat.mod_mul]
theorem div_mod_two (x k : Nat) : x / 2 ^ k % 2 = if x.testBit k then 1 else 0 := by
  rw [Nat.testBit_eq_decide_div_mod_eq]
  by_cases h : x / 2 ^ k % 2 = 1
  · simp [h]
  · simp [h]
    omega
theorem bits_xor (a b : Nat) (ha : a < 4294967296) (hb : b < 4294967296) : bitsN true false a b 32 = a ^^^ b := by
  rw [bitsN_of true false a b (a ^^^ b)]
  · exact Nat.mod_eq_of_lt (Nat.xor_lt_two_pow (n := 32) (by omega) (by omega))
  · intro k
    rw [div_mod_two, div_mod_two, div_mod_two, Nat.testBit_xor]
    cases a.testBit k <;> cases b.testBit k <;> simp [bit1]
theorem bits_and (a b : Nat) (ha : a < 4294967296) : bitsN false true a b 32 = a &&& b := by
  rw [bitsN_of false true a b (a &&& b)]
  · exact Nat.mod_eq_of_lt (by rw [Nat.and_comm]; exact Nat.and_lt_two_pow (n := 32) b (by omega))
  · intro k
    rw [div_mod_two, div_mod_two, div_mod_two, Nat.testBit_and]
    cases a.testBit k <;> cases b.testBit k <;> simp [bit1]
theorem bits_or (a b : Nat) (ha : a < 4294967296) (hb : b < 4294967296) : bitsN true true a b 32 = a ||| b := by
  rw [bitsN_of true true a b (a ||| b)]
  · exact Nat.mod_eq_of_lt (Nat.or_lt_two_pow (n := 32) (by omega) (by omega))
  · intro k
    rw [div_mod_two, div_mod_two, div_mod_two, Nat.testBit_or]
    cases a.testBit k <;> cases b.testBit k <;> simp [bit1]

end Go.Proofs.Ytmfndimejnbgkaa.Fold
