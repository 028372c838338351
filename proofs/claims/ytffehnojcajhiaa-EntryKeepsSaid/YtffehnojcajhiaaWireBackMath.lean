/-
  What is encoded is read back as it was: plain facts.
-/
import Derived.Test.YtffehnojcajhiaaWireRead
namespace Go.Proofs.Ytffehnojcajhiaa.Wire
open Go Go.Proofs.Ytffehnojcajhiaa.Law

theorem rdNum_numF : ∀ (f i n acc : Nat) (rest : List Nat), i + f = 9 → (0 < i → 0 < n) → n * 128 ^ i < 18446744073709551616 → rdNum i acc (numF f n ++ rest) = .ok (acc + n * 128 ^ i, rest) := by
  intro f
  induction f with
  | zero =>
    intro i n acc rest hi hp hn
    obtain rfl : i = 9 := by omega
    have e9 : 128 ^ 9 = 9223372036854775808 := by decide
    rw [e9] at hn ⊢
    have h1 : n ≤ 1 := by omega
    rw [numF, List.singleton_append, rdNum, if_neg (by omega), if_pos (by omega), e9, Nat.mod_eq_of_lt (by omega)]
  | succ f ih =>
    intro i n acc rest hi hp hn
    rw [numF]
    split
    · rename_i hlt
      rw [List.singleton_append, rdNum, if_neg (by omega), if_pos hlt, Nat.mod_eq_of_lt hlt]
    · rename_i hge
      rw [List.cons_append, rdNum, if_neg (by omega), if_neg (by omega)]
      have e : 128 ^ (i + 1) = 128 * 128 ^ i := by rw [Nat.pow_succ, Nat.mul_comm]
      have hdm : n / 128 * 128 + n % 128 = n := by omega
      have hmul : n / 128 * 128 ^ (i + 1) + n % 128 * 128 ^ i = n * 128 ^ i := by
        rw [e, ← Nat.mul_assoc, ← Nat.add_mul, hdm]
      rw [ih (i + 1) (n / 128) _ rest (by omega) (fun _ => by omega) (by omega)]
      rw [show (n % 128 + 128) % 128 = n % 128 by omega, Nat.add_assoc, Nat.add_comm (n % 128 * 128 ^ i), hmul]

theorem rdNum_num {n : Nat} (h : n < 18446744073709551616) (rest : List Nat) : rdNum 0 0 (num n ++ rest) = .ok (n, rest) := by
  have := rdNum_numF 9 0 n 0 rest rfl (fun h => absurd h (by omega)) (by simpa using h)
  simpa [num] using this

theorem unzig_zig (n : Int) : unzig (zig n) = n := by
  unfold unzig zig
  split <;> split <;> omega

theorem str_sb (s : ByteArray) : str (sb s) = s := by
  unfold str sb
  rw [List.map_map]
  have : (UInt8.ofNat ∘ UInt8.toNat) = id := by funext x; simp
  rw [this, List.map_id, Array.toArray_toList]

theorem noT_of {s : ByteArray} (h : s.size = 0) : s = noT := by
  have : s.data = #[] := Array.eq_empty_of_size_eq_zero h
  cases s
  simp only at this
  subst this
  rfl

theorem form_cases {k n : Int} {s : ByteArray} {l : List Item} (h : Item.form (.mk k n s l) = true) :
    (k = 0 ∧ s = noT ∧ l = []) ∨ (k = 1 ∧ n = 0 ∧ l = []) ∨ (k = 2 ∧ n = 0 ∧ s = noT) := by
  replace h : (if k = 0 then decide (s.size = 0) && decide (l.length = 0) else if k = 1 then decide (n = 0) && decide (l.length = 0) else if k = 2 then decide (n = 0) && decide (s.size = 0) else false) = true := h
  by_cases h0 : k = 0
  · rw [if_pos h0] at h
    simp only [Bool.and_eq_true, decide_eq_true_eq] at h
    exact .inl ⟨h0, noT_of h.1, List.eq_nil_of_length_eq_zero h.2⟩
  · rw [if_neg h0] at h
    by_cases h1 : k = 1
    · rw [if_pos h1] at h
      simp only [Bool.and_eq_true, decide_eq_true_eq] at h
      exact .inr (.inl ⟨h1, h.1, List.eq_nil_of_length_eq_zero h.2⟩)
    · rw [if_neg h1] at h
      by_cases h2 : k = 2
      · rw [if_pos h2] at h
        simp only [Bool.and_eq_true, decide_eq_true_eq] at h
        exact .inr (.inr ⟨h2, h.1, noT_of h.2⟩)
      · rw [if_neg h2] at h; cases h

theorem sb_noT : sb noT = [] := rfl

mutual
theorem rdI_of : ∀ (x : Item) (d c b : Nat) (rest : List Nat), d + b = 9 → x.sized → (chkI d c x).2 = 0 → rdI b c (x.bytes ++ rest) = .ok (x, c + x.nodes, rest)
  | .mk k n s l, d, c, b, rest, hd, hs, h => by
    rw [chkI] at h
    split at h
    · cases h
    · rename_i hf
      split at h
      · cases h
      · rename_i hc
        obtain ⟨b, rfl⟩ : ∃ b', b = b' + 1 := ⟨b - 1, by omega⟩
        have hlist := rdL_of l (d + 1) (c + 1) b
        have hso := sized_of hs
        have hnl := no_lt hs
        simp only [Item.kind, Item.n, Item.s, Item.kids] at hso
        rw [rdI, if_neg (by omega), Item.bytes, List.cons_append, rdHead]
        rcases form_cases (by simpa using hf) with ⟨rfl, rfl, rfl⟩ | ⟨rfl, rfl, rfl⟩ | ⟨rfl, rfl, rfl⟩
        · have hno : Item.no (.mk 0 n noT []) = zig n := rfl
          rw [hno] at hnl ⊢
          rw [if_neg (by decide), List.append_assoc, rdNum_num hnl]
          simp [sb_noT, bytesL, unzig_zig, Item.nodes, nodesL]
        · have hno : Item.no (.mk 1 0 s []) = s.size := rfl
          rw [hno] at hnl ⊢
          rw [if_neg (by decide), List.append_assoc, rdNum_num hnl]
          have hlt : ¬ 9223372036854775807 < s.size := by omega
          have h1 : ¬ (sb s ++ bytesL [] ++ rest).length < s.size := by simp [sb_length]
          have h2 : (sb s ++ bytesL [] ++ rest).take s.size = sb s := by
            rw [List.append_assoc, ← sb_length, List.take_left']; rfl
          have h3 : (sb s ++ bytesL [] ++ rest).drop s.size = rest := by
            rw [show bytesL ([] : List Item) = [] by rfl, List.append_nil, ← sb_length, List.drop_left']; rfl
          simp only [show (1 % 256 : Int).toNat = 1 by rfl, hlt, and_false, if_false, h1, h2, h3, str_sb, show ¬ (1 = 0) by omega, if_true]
          simp [Item.nodes, nodesL]
        · have hno : Item.no (.mk 2 0 noT l) = l.length := rfl
          rw [hno] at hnl ⊢
          rw [if_neg (by decide), List.append_assoc, rdNum_num hnl]
          have hlt : ¬ 9223372036854775807 < l.length := by omega
          have hl2 := hlist rest [] (by omega) (sized_kids hs) h
          simp only [show (2 % 256 : Int).toNat = 2 by rfl, hlt, and_false, if_false, show ¬ (2 = 0) by omega, show ¬ (2 = 1) by omega, sb_noT, List.nil_append, hl2]
          simp [Item.nodes]
          omega
theorem rdL_of : ∀ (l : List Item) (d c b : Nat) (rest : List Nat) (acc : List Item), d + b = 9 → sizedL l → (chkL d c l).2 = 0 → rdL (rdI b) l.length c (bytesL l ++ rest) acc = .ok (acc ++ l, c + nodesL l, rest)
  | [], d, c, b, rest, acc, hd, hs, h => by simp [rdL, bytesL, nodesL]
  | x :: r, d, c, b, rest, acc, hd, hs, h => by
    rw [sizedL] at hs
    rw [chkL] at h
    split at h
    · rename_i h0; exact absurd h h0
    · rename_i h0
      have h0' : (chkI d c x).2 = 0 := by simpa using h0
      have h1 := rdI_of x d c b (bytesL r ++ rest) hd hs.1 h0'
      have hn := (chkI_ok d c x h0').1
      rw [hn] at h
      have h2 := rdL_of r d (c + x.nodes) b rest (acc ++ [x]) hd hs.2 h
      rw [List.length_cons, rdL, bytesL, List.append_assoc, h1]
      simp only [h2, nodesL, List.append_assoc, List.singleton_append, Nat.add_assoc]
end

theorem rdTop_of : ∀ (l : List Item) (f c : Nat) (acc : List Item), 4097 ≤ f + c → sizedL l → (chkL 1 c l).2 = 0 → c ≤ 4096 → rdTop f c (bytesL l) acc = .ok (acc ++ l)
  | [], f, c, acc, hf, hs, h, hc => by
    obtain ⟨f, rfl⟩ : ∃ f', f = f' + 1 := ⟨f - 1, by omega⟩
    rw [rdTop, bytesL, if_pos rfl, List.append_nil]
  | x :: r, f, c, acc, hf, hs, h, hc => by
    obtain ⟨f, rfl⟩ : ∃ f', f = f' + 1 := ⟨f - 1, by omega⟩
    rw [sizedL] at hs
    rw [chkL] at h
    split at h
    · rename_i h0; exact absurd h h0
    · rename_i h0
      have h0' : (chkI 1 c x).2 = 0 := by simpa using h0
      have h1 := rdI_of x 1 c 8 (bytesL r) rfl hs.1 h0'
      have hn := chkI_ok 1 c x h0'
      rw [hn.1] at h
      have hpos : 0 < x.nodes := by cases x; rw [Item.nodes]; omega
      have h2 := rdTop_of r f (c + x.nodes) (acc ++ [x]) (by omega) hs.2 h hn.2.2
      rw [rdTop, if_neg (by rw [bytesL, bytes_eq]; simp), bytesL, h1]
      simp only [h2, List.append_assoc, List.singleton_append]

/-- What is encoded is decoded. -/
theorem dec_enc {l : List Item} (hs : sizedL l) (h : (encN l).2 = 0) : decN (encN l).1 = .ok l := by
  unfold encN at h ⊢
  split at h
  · rename_i h0; exact absurd h h0
  · rename_i h0
    rw [if_neg h0]
    split at h
    · cases h
    · rename_i h1
      rw [if_neg h1]
      unfold decN
      rw [if_neg h1, rdTop_of l 4097 0 [] (by omega) hs (by simpa using h0) (by omega)]
      simp

/-- Two messages have one text just if they are the same. -/
theorem enc_inj {l m : List Item} (hl : sizedL l) (hm : sizedL m) (h1 : (encN l).2 = 0) (h2 : (encN m).2 = 0) (h : (encN l).1 = (encN m).1) : l = m := by
  have e1 := dec_enc hl h1
  have e2 := dec_enc hm h2
  rw [h, e2] at e1
  exact (Except.ok.inj e1).symm

/-- The text that was decoded, or none. -/
def decOf : Except Nat (List Item) → List Item × Nat
  | .ok l => (l, 0)
  | .error k => ([], k)
def decR (bs : List Nat) : List Item × Nat := decOf (decN bs)

end Go.Proofs.Ytffehnojcajhiaa.Wire
