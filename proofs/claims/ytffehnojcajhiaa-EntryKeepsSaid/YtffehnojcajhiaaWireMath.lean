/-
  Items and their bytes: plain definitions and facts, of no program.
-/
namespace Go.Proofs.Ytffehnojcajhiaa.Wire

/-- An item: its kind, its number, its text, its list. -/
inductive Item where
  | mk (kind n : Int) (s : ByteArray) (l : List Item)

def Item.kind : Item → Int
  | .mk k _ _ _ => k
def Item.n : Item → Int
  | .mk _ n _ _ => n
def Item.s : Item → ByteArray
  | .mk _ _ s _ => s
def Item.kids : Item → List Item
  | .mk _ _ _ l => l

/-- The bytes of a text. -/
def sb (s : ByteArray) : List Nat := s.data.toList.map UInt8.toNat
theorem sb_length (s : ByteArray) : (sb s).length = s.size := by unfold sb; rw [List.length_map, Array.length_toList]; rfl
theorem sb_lt (s : ByteArray) : ∀ x ∈ sb s, x < 256 := by
  intro x hx
  simp only [sb, List.mem_map] at hx
  obtain ⟨y, _, rfl⟩ := hx
  exact y.toNat_lt

/-- A number's digits to the base 128. -/
def numF : Nat → Nat → List Nat
  | 0, n => [n]
  | f + 1, n => if n < 128 then [n] else (n % 128 + 128) :: numF f (n / 128)
def num (n : Nat) : List Nat := numF 9 n

theorem numF_pos (f n : Nat) : 1 ≤ (numF f n).length := by
  cases f with
  | zero => simp [numF]
  | succ f => rw [numF]; split <;> simp
theorem numF_le (f : Nat) : ∀ n, (numF f n).length ≤ f + 1 := by
  induction f with
  | zero => intro n; simp [numF]
  | succ f ih => intro n; rw [numF]; split
                 · simp
                 · have := ih (n / 128); simp; omega
theorem numF_lt (f : Nat) : ∀ n, n < 128 ^ (f + 1) → ∀ x ∈ numF f n, x < 256 := by
  induction f with
  | zero => intro n h x hx; simp [numF] at hx; subst hx; simp at h; omega
  | succ f ih =>
    intro n h x hx
    rw [numF] at hx
    split at hx
    · simp at hx; omega
    · rcases List.mem_cons.1 hx with rfl | h1
      · omega
      · refine ih (n / 128) ?_ x h1
        rw [Nat.pow_succ] at h
        exact (Nat.div_lt_iff_lt_mul (by decide)).2 h
theorem num_lt {n : Nat} (h : n < 18446744073709551616) : ∀ x ∈ num n, x < 256 := numF_lt 9 n (by have : 128 ^ (9 + 1) = 1180591620717411303424 := by decide
                                                                                                  omega)

/-- An int as a number. -/
def zig (n : Int) : Nat := if n < 0 then (-2 * n - 1).toNat else (2 * n).toNat
theorem zig_lt {n : Int} (h1 : -9223372036854775808 ≤ n) (h2 : n ≤ 9223372036854775807) : zig n < 18446744073709551616 := by
  unfold zig; split <;> omega

/-- The number behind an item's kind. -/
def Item.no (x : Item) : Nat := if x.kind = 1 then x.s.size else if x.kind = 2 then x.kids.length else zig x.n

mutual
def Item.bytes : Item → List Nat
  | .mk k n s l => (k % 256).toNat :: (num (Item.no (.mk k n s l)) ++ (sb s ++ bytesL l))
def bytesL : List Item → List Nat
  | [] => []
  | x :: r => x.bytes ++ bytesL r
end

/-- Is an item in form, its list's items aside? -/
def Item.form (x : Item) : Bool :=
  if x.kind = 0 then decide (x.s.size = 0) && decide (x.kids.length = 0)
  else if x.kind = 1 then decide (x.n = 0) && decide (x.kids.length = 0)
  else if x.kind = 2 then decide (x.n = 0) && decide (x.s.size = 0)
  else false

mutual
/-- The count behind an item and the error, at depth d, c items ahead. -/
def chkI (d c : Nat) : Item → Nat × Nat
  | .mk k n s l => if Item.form (.mk k n s l) = false then (c + 1, 3) else if 4096 < c + 1 ∨ 8 < d then (c + 1, 2) else chkL (d + 1) (c + 1) l
def chkL (d c : Nat) : List Item → Nat × Nat
  | [] => (c, 0)
  | x :: r => if (chkI d c x).2 ≠ 0 then chkI d c x else chkL d (chkI d c x).1 r
end

mutual
/-- How many items. -/
def Item.nodes : Item → Nat
  | .mk _ _ _ l => 1 + nodesL l
def nodesL : List Item → Nat
  | [] => 0
  | x :: r => x.nodes + nodesL r
end

mutual
/-- How many bytes the texts have. -/
def Item.strs : Item → Nat
  | .mk _ _ s l => s.size + strsL l
def strsL : List Item → Nat
  | [] => 0
  | x :: r => x.strs + strsL r
end

mutual
/-- All are in form. -/
def Item.fine : Item → Prop
  | .mk k n s l => Item.form (.mk k n s l) = true ∧ fineL l
def fineL : List Item → Prop
  | [] => True
  | x :: r => x.fine ∧ fineL r
end

mutual
/-- All ints are ints and all texts are short enough to lie in memory. -/
def Item.sized : Item → Prop
  | .mk k n s l => -9223372036854775808 ≤ k ∧ k ≤ 9223372036854775807 ∧ -9223372036854775808 ≤ n ∧ n ≤ 9223372036854775807 ∧ s.size ≤ 140737488355328 ∧ l.length ≤ 9223372036854775807 ∧ sizedL l
def sizedL : List Item → Prop
  | [] => True
  | x :: r => x.sized ∧ sizedL r
end

theorem nodesL_get : ∀ (l : List Item) (k : Nat) (x : Item), l[k]? = some x → x.nodes ≤ nodesL l
  | [], k, x, h => by simp at h
  | y :: r, 0, x, h => by simp at h; subst h; rw [nodesL]; omega
  | y :: r, k + 1, x, h => by have := nodesL_get r k x (by simpa using h); rw [nodesL]; omega
theorem nodes_kids (x : Item) : nodesL x.kids < x.nodes := by
  cases x; simp only [Item.kids]; rw [Item.nodes]; omega
theorem nodesL_kids {l : List Item} {k : Nat} {x : Item} (h : l[k]? = some x) : nodesL x.kids < nodesL l := Nat.lt_of_lt_of_le (nodes_kids x) (nodesL_get l k x h)
theorem fineL_get : ∀ {l : List Item} {k : Nat} {x : Item}, l[k]? = some x → fineL l → x.fine
  | [], k, x, h, _ => by simp at h
  | y :: r, 0, x, h, hf => by simp at h; subst h; rw [fineL] at hf; exact hf.1
  | y :: r, k + 1, x, h, hf => by rw [fineL] at hf; exact fineL_get (l := r) (k := k) (by simpa using h) hf.2
theorem sizedL_get : ∀ {l : List Item} {k : Nat} {x : Item}, l[k]? = some x → sizedL l → x.sized
  | [], k, x, h, _ => by simp at h
  | y :: r, 0, x, h, hf => by simp at h; subst h; rw [sizedL] at hf; exact hf.1
  | y :: r, k + 1, x, h, hf => by rw [sizedL] at hf; exact sizedL_get (l := r) (k := k) (by simpa using h) hf.2
theorem fine_kids {x : Item} (h : x.fine) : fineL x.kids := by cases x; rw [Item.fine] at h; exact h.2
theorem fine_form {x : Item} (h : x.fine) : x.form = true := by cases x; rw [Item.fine] at h; exact h.1
theorem sized_kids {x : Item} (h : x.sized) : sizedL x.kids := by cases x; rw [Item.sized] at h; exact h.2.2.2.2.2.2
theorem sized_of {x : Item} (h : x.sized) : -9223372036854775808 ≤ x.kind ∧ x.kind ≤ 9223372036854775807 ∧ -9223372036854775808 ≤ x.n ∧ x.n ≤ 9223372036854775807 ∧ x.s.size ≤ 140737488355328 ∧ x.kids.length ≤ 9223372036854775807 := by
  cases x; rw [Item.sized] at h; exact ⟨h.1, h.2.1, h.2.2.1, h.2.2.2.1, h.2.2.2.2.1, h.2.2.2.2.2.1⟩

theorem no_lt {x : Item} (h : x.sized) : x.no < 18446744073709551616 := by
  have := sized_of h
  have := zig_lt this.2.2.1 this.2.2.2.1
  unfold Item.no
  split
  · omega
  · split <;> omega

/-- Each step of the count. -/
theorem chkI_eq (d c : Nat) (x : Item) : chkI d c x = if x.form = false then (c + 1, 3) else if 4096 < c + 1 ∨ 8 < d then (c + 1, 2) else chkL (d + 1) (c + 1) x.kids := by cases x; rfl
theorem bytes_eq (x : Item) : x.bytes = (x.kind % 256).toNat :: (num x.no ++ (sb x.s ++ bytesL x.kids)) := by cases x; rfl

mutual
theorem chkI_ok (d c : Nat) : ∀ x : Item, (chkI d c x).2 = 0 → (chkI d c x).1 = c + x.nodes ∧ x.fine ∧ c + x.nodes ≤ 4096
  | .mk k n s l => by
    intro h
    rw [chkI] at h ⊢
    rw [Item.nodes, Item.fine]
    split at h
    · cases h
    · rename_i hf
      rw [if_neg hf]
      split at h
      · cases h
      · rename_i hc
        rw [if_neg hc]
        have := chkL_ok (d + 1) (c + 1) l h
        refine ⟨by omega, ⟨by simpa using hf, this.2.1⟩, ?_⟩
        rcases this.2.2 with h1 | h1 <;> omega
theorem chkL_ok (d c : Nat) : ∀ l : List Item, (chkL d c l).2 = 0 → (chkL d c l).1 = c + nodesL l ∧ fineL l ∧ (c + nodesL l ≤ 4096 ∨ nodesL l = 0)
  | [] => by intro _; rw [chkL, nodesL, fineL]; exact ⟨rfl, trivial, .inr rfl⟩
  | x :: r => by
    intro h
    rw [chkL] at h ⊢
    rw [nodesL, fineL]
    split at h
    · rename_i h0; exact absurd h h0
    · rename_i h0
      rw [if_neg h0]
      have h1 := chkI_ok d c x (by simpa using h0)
      rw [h1.1] at h ⊢
      have h2 := chkL_ok d (c + x.nodes) r h
      refine ⟨by omega, ⟨h1.2.1, h2.2.1⟩, ?_⟩
      have := h1.2.2
      omega
end

mutual
theorem strs_le : ∀ x : Item, x.strs ≤ x.bytes.length
  | .mk k n s l => by
    have := strsL_le l
    rw [Item.strs, Item.bytes]
    simp only [List.length_cons, List.length_append, sb_length]
    omega
theorem strsL_le : ∀ l : List Item, strsL l ≤ (bytesL l).length
  | [] => by simp [strsL, bytesL]
  | x :: r => by
    have h1 := strs_le x
    have h2 := strsL_le r
    rw [strsL, bytesL, List.length_append]
    omega
end
mutual
theorem bytes_le : ∀ x : Item, x.bytes.length ≤ 11 * x.nodes + x.strs
  | .mk k n s l => by
    have := bytesL_le l
    have h2 : (num (Item.no (.mk k n s l))).length ≤ 10 := numF_le 9 _
    rw [Item.strs, Item.bytes, Item.nodes]
    simp only [List.length_cons, List.length_append, sb_length]
    omega
theorem bytesL_le : ∀ l : List Item, (bytesL l).length ≤ 11 * nodesL l + strsL l
  | [] => by simp [strsL, bytesL]
  | x :: r => by
    have h1 := bytes_le x
    have h2 := bytesL_le r
    rw [strsL, bytesL, List.length_append, nodesL]
    omega
end
mutual
theorem strs_sized : ∀ x : Item, x.sized → x.strs ≤ x.nodes * 140737488355328
  | .mk k n s l => by
    intro h
    rw [Item.sized] at h
    have := strsL_sized l h.2.2.2.2.2.2
    have := h.2.2.2.2.1
    rw [Item.strs, Item.nodes]
    omega
theorem strsL_sized : ∀ l : List Item, sizedL l → strsL l ≤ nodesL l * 140737488355328
  | [] => by simp [strsL]
  | x :: r => by
    intro h
    rw [sizedL] at h
    have h1 := strs_sized x h.1
    have h2 := strsL_sized r h.2
    rw [strsL, nodesL]
    omega
end

/-- The bytes of a message, or the error. -/
def encN (l : List Item) : List Nat × Nat :=
  if (chkL 1 0 l).2 ≠ 0 then ([], (chkL 1 0 l).2) else if 65536 < (bytesL l).length then ([], 2) else (bytesL l, 0)

theorem bytesL_append : ∀ a b : List Item, bytesL (a ++ b) = bytesL a ++ bytesL b
  | [], b => by simp [bytesL]
  | x :: a, b => by simp [bytesL, bytesL_append a b]
theorem bytesL_take_succ {l : List Item} {k : Nat} {x : Item} (h : l[k]? = some x) : bytesL (l.take (k + 1)) = bytesL (l.take k) ++ x.bytes := by
  have hk : k < l.length := (List.getElem?_eq_some_iff.1 h).1
  have e : l.take (k + 1) = l.take k ++ [x] := by
    rw [List.take_succ_eq_append_getElem hk]
    rw [List.getElem?_eq_getElem hk, Option.some.injEq] at h
    rw [h]
  rw [e, bytesL_append]
  simp [bytesL]
theorem bytesL_take_le (l : List Item) (k : Nat) : (bytesL (l.take k)).length ≤ (bytesL l).length := by
  have h : bytesL l = bytesL (l.take k) ++ bytesL (l.drop k) := by rw [← bytesL_append, List.take_append_drop]
  rw [h]; simp
theorem chkL_cons (d c : Nat) (x : Item) (r : List Item) : chkL d c (x :: r) = if (chkI d c x).2 ≠ 0 then chkI d c x else chkL d (chkI d c x).1 r := by rw [chkL]
theorem chkL_nil (d c : Nat) : chkL d c [] = (c, 0) := by rw [chkL]
theorem drop_get {α : Type} {l : List α} {k : Nat} {x : α} (h : l[k]? = some x) : l.drop k = x :: l.drop (k + 1) := by
  have hk : k < l.length := (List.getElem?_eq_some_iff.1 h).1
  rw [List.getElem?_eq_getElem hk, Option.some.injEq] at h
  rw [List.drop_eq_getElem_cons hk, h]

theorem length_le_bytes : ∀ l : List Item, l.length ≤ (bytesL l).length
  | [] => by simp
  | x :: r => by
    have := length_le_bytes r
    rw [bytesL, List.length_append, List.length_cons, bytes_eq]
    simp only [List.length_cons]
    omega
theorem length_le_nodes : ∀ l : List Item, l.length ≤ nodesL l
  | [] => by simp
  | x :: r => by
    have := length_le_nodes r
    have h := nodes_kids x
    rw [nodesL, List.length_cons]
    omega

end Go.Proofs.Ytffehnojcajhiaa.Wire
