/-
  How items are read out of bytes: plain definitions.
-/
import Derived.Test.YtffehnojcajhiaaWireMath
import Derived.Test.YtffehnojcajhiaaSame
namespace Go.Proofs.Ytffehnojcajhiaa.Wire
open Go Go.Proofs.Ytffehnojcajhiaa.Law

/-- A number, from its digit i on, n so far. -/
def rdNum (i n : Nat) : List Nat → Except Nat (Nat × List Nat)
  | [] => .error 5
  | x :: r => if (i = 9 ∧ 1 < x) ∨ (0 < i ∧ x = 0) then .error 3 else if x < 128 then .ok (n + x % 128 * 128 ^ i, r) else rdNum (i + 1) (n + x % 128 * 128 ^ i) r

/-- A number as an int. -/
def unzig (u : Nat) : Int := if u % 2 = 1 then -((u / 2 : Nat) : Int) - 1 else ((u / 2 : Nat) : Int)

/-- An item's kind and number. -/
def rdHead : List Nat → Except Nat (Nat × Nat × List Nat)
  | [] => .error 5
  | k :: r => if 2 < k then .error 3 else
    match rdNum 0 0 r with
    | .error e => .error e
    | .ok (n, r') => if k ≠ 0 ∧ 9223372036854775807 < n then .error 3 else .ok (k, n, r')

/-- n items, one behind the other. -/
def rdL (f : Nat → List Nat → Except Nat (Item × Nat × List Nat)) : Nat → Nat → List Nat → List Item → Except Nat (List Item × Nat × List Nat)
  | 0, c, bs, acc => .ok (acc, c, bs)
  | n + 1, c, bs, acc =>
    match f c bs with
    | .error e => .error e
    | .ok (x, c', bs') => rdL f n c' bs' (acc ++ [x])

def noT : ByteArray := ⟨#[]⟩
/-- An item that may lie b deep; c items were ahead. -/
def rdI : Nat → Nat → List Nat → Except Nat (Item × Nat × List Nat)
  | 0, _, _ => .error 2
  | b + 1, c, bs => if 4096 < c + 1 then .error 2 else
    match rdHead bs with
    | .error e => .error e
    | .ok (k, n, r) =>
      if k = 0 then .ok (.mk 0 (unzig n) noT [], c + 1, r)
      else if k = 1 then (if r.length < n then .error 5 else .ok (.mk 1 0 (str (r.take n)) [], c + 1, r.drop n))
      else
        match rdL (rdI b) n (c + 1) r [] with
        | .error e => .error e
        | .ok (l, c', r') => .ok (.mk 2 0 noT l, c', r')

/-- Items till the bytes end. -/
def rdTop : Nat → Nat → List Nat → List Item → Except Nat (List Item)
  | 0, _, _, _ => .error 2
  | f + 1, c, bs, acc => if bs = [] then .ok acc else
    match rdI 8 c bs with
    | .error e => .error e
    | .ok (x, c', bs') => rdTop f c' bs' (acc ++ [x])

/-- A message. -/
def decN (bs : List Nat) : Except Nat (List Item) := if 65536 < bs.length then .error 2 else rdTop 4097 0 bs []

theorem rdNum_length : ∀ (bs : List Nat) (i n m : Nat) (r : List Nat), rdNum i n bs = .ok (m, r) → r.length < bs.length ∧ ∃ k, r = bs.drop k
  | [], i, n, m, r, h => by simp [rdNum] at h
  | x :: bs, i, n, m, r, h => by
    rw [rdNum] at h
    split at h
    · cases h
    · split at h
      · simp only [Except.ok.injEq, Prod.mk.injEq] at h
        obtain ⟨_, rfl⟩ := h
        exact ⟨by simp, 1, rfl⟩
      · obtain ⟨h1, k, h2⟩ := rdNum_length bs _ _ _ _ h
        exact ⟨by simp; omega, k + 1, by rw [h2]; rfl⟩

theorem pow128_le {k : Nat} (h : k ≤ 9) : 128 ^ k ≤ 9223372036854775808 := by
  have : 128 ^ k ≤ 128 ^ 9 := Nat.pow_le_pow_right (by decide) h
  have e : 128 ^ 9 = 9223372036854775808 := by decide
  omega
theorem digit_bound {k x n : Nat} (hk : k ≤ 9) (hx : k = 9 → x ≤ 1) (hn : n < 128 ^ k) : n + x % 128 * 128 ^ k < 18446744073709551616 ∧ (k < 9 → n + x % 128 * 128 ^ k < 128 ^ (k + 1)) := by
  have h1 := pow128_le hk
  have h2 : x % 128 ≤ 127 := by omega
  have h3 : x % 128 * 128 ^ k ≤ 127 * 128 ^ k := Nat.mul_le_mul_right _ h2
  have e : 128 ^ (k + 1) = 128 * 128 ^ k := by rw [Nat.pow_succ, Nat.mul_comm]
  refine ⟨?_, fun _ => by omega⟩
  by_cases h9 : k = 9
  · have hx1 := hx h9
    have h4 : x % 128 * 128 ^ k ≤ 1 * 128 ^ k := Nat.mul_le_mul_right _ (by omega)
    omega
  · have : 128 ^ k ≤ 128 ^ 8 := Nat.pow_le_pow_right (by decide) (by omega)
    have e : 128 ^ 8 = 72057594037927936 := by decide
    omega
theorem rdNum_lt : ∀ (bs : List Nat) (i n m : Nat) (r : List Nat), i ≤ 9 → n < 128 ^ i → rdNum i n bs = .ok (m, r) → m < 18446744073709551616
  | [], i, n, m, r, _, _, h => by simp [rdNum] at h
  | x :: bs, i, n, m, r, hi, hn, h => by
    rw [rdNum] at h
    split at h
    · cases h
    · rename_i hbad
      have hb := digit_bound (k := i) (x := x) (n := n) hi (fun h9 => by
        rcases Nat.lt_or_ge 1 x with h1 | h1
        · exact absurd (.inl ⟨h9, h1⟩) hbad
        · exact h1) hn
      split at h
      · simp only [Except.ok.injEq, Prod.mk.injEq] at h
        obtain ⟨rfl, _⟩ := h
        exact hb.1
      · rename_i hbig
        by_cases h9 : i = 9
        · exact absurd (.inl ⟨h9, by omega⟩) hbad
        · exact rdNum_lt bs (i + 1) _ m r (by omega) (hb.2 (by omega)) h

end Go.Proofs.Ytffehnojcajhiaa.Wire
