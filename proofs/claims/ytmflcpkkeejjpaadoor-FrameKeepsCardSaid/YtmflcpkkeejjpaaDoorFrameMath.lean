/-
  Plain facts on frames: a number's four bytes, a payload's frame, what is read at a place, and rows of frames.
-/
import Derived.Test.YtmflcpkkeejjpaaDoorCrcFlip
namespace Go.Proofs.YtmflcpkkeejjpaaDoor.Frame
open Go.Proofs.YtmflcpkkeejjpaaDoor.Crc

/-- A number's four bytes, the lowest first; and the number of four bytes. -/
def le4 (n : Nat) : List Nat := [n % 256, n / 256 % 256, n / 65536 % 256, n / 16777216 % 256]
def num4 (b : List Nat) : Nat := b.getD 0 0 + 256 * (b.getD 1 0 + 256 * (b.getD 2 0 + 256 * b.getD 3 0))

theorem le4_length (n : Nat) : (le4 n).length = 4 := rfl
theorem le4_lt (n : Nat) : ∀ x ∈ le4 n, x < 256 := by
  intro x hx
  simp only [le4, List.mem_cons, List.not_mem_nil, or_false] at hx
  omega
theorem num4_le4 (n : Nat) (h : n < 4294967296) (r : List Nat) : num4 (le4 n ++ r) = n := by
  simp only [num4, le4, List.cons_append, List.getD_cons_zero, List.getD_cons_succ]
  omega
theorem getD_lt' {l : List Nat} (h : ∀ x ∈ l, x < 256) (k : Nat) : l.getD k 0 < 256 := by
  by_cases hk : k < l.length
  · have : l.getD k 0 = l[k] := by simp [List.getD, hk]
    rw [this]; exact h _ (List.getElem_mem _)
  · have : l.getD k 0 = 0 := by simp [List.getD, List.getElem?_eq_none (show l.length ≤ k by omega)]
    omega
theorem num4_lt {b : List Nat} (h : ∀ x ∈ b, x < 256) : num4 b < 4294967296 := by
  have h0 := getD_lt' h 0
  have h1 := getD_lt' h 1
  have h2 := getD_lt' h 2
  have h3 := getD_lt' h 3
  unfold num4; omega
theorem le4_num4 {b : List Nat} (h : ∀ x ∈ b, x < 256) (hl : 4 ≤ b.length) : le4 (num4 b) = b.take 4 := by
  match b, hl with
  | a :: b :: c :: d :: r, _ =>
    have h0 := h a (by simp)
    have h1 := h b (by simp)
    have h2 := h c (by simp)
    have h3 := h d (by simp)
    simp only [num4, le4, List.getD_cons_zero, List.getD_cons_succ, List.take_succ_cons, List.take_zero, List.cons.injEq, and_true]
    omega
theorem num4_take (b : List Nat) (k : Nat) (hk : 4 ≤ k) : num4 (b.take k) = num4 b := by
  have h : ∀ j, j < 4 → (b.take k).getD j 0 = b.getD j 0 := by
    intro j hj
    simp only [List.getD_eq_getElem?_getD]
    rw [List.getElem?_take, if_pos (by omega)]
  unfold num4
  rw [h 0 (by omega), h 1 (by omega), h 2 (by omega), h 3 (by omega)]

theorem getD_piece (b : List Nat) (i l j : Nat) : ((b.drop i).take l).getD j 0 = if j < l then b.getD (i + j) 0 else 0 := by
  simp only [List.getD_eq_getElem?_getD]
  rw [List.getElem?_take]
  split
  · rw [List.getElem?_drop]
  · rfl

/-- The frame of a payload. -/
def frameN (p : List Nat) : List Nat := le4 p.length ++ (le4 (extN 0 (le4 p.length)) ++ (p ++ le4 (extN 0 p)))
theorem frameN_length (p : List Nat) : (frameN p).length = 12 + p.length := by
  simp only [frameN, List.length_append, le4_length]; omega
theorem frameN_lt {p : List Nat} (h : ∀ x ∈ p, x < 256) : ∀ x ∈ frameN p, x < 256 := by
  intro x hx
  simp only [frameN, List.mem_append] at hx
  rcases hx with hx | hx | hx | hx
  · exact le4_lt _ x hx
  · exact le4_lt _ x hx
  · exact h x hx
  · exact le4_lt _ x hx

/-- What is read of the bytes from a place on: the payload, the place behind, the error. -/
def readN (r : List Nat) (at0 : Nat) : List Nat × Nat × Nat :=
  if r.length < 8 then ([], 0, 5)
  else if num4 (r.drop 4) ≠ extN 0 (r.take 4) then ([], 0, 4)
  else if 65536 < num4 r then ([], 0, 2)
  else if r.length < num4 r + 12 then ([], 0, 5)
  else if num4 (r.drop (8 + num4 r)) ≠ extN 0 ((r.drop 8).take (num4 r)) then ([], 0, 4)
  else ((r.drop 8).take (num4 r), at0 + 12 + num4 r, 0)
def nextN (b : List Nat) (at0 : Nat) : List Nat × Nat × Nat := readN (b.drop at0) at0

theorem readN_end1 {r : List Nat} {at0 : Nat} (h : r.length < 8) : readN r at0 = ([], 0, 5) := by
  unfold readN; rw [if_pos h]
theorem readN_sum1 {r : List Nat} {at0 : Nat} (h : 8 ≤ r.length) (h1 : num4 (r.drop 4) ≠ extN 0 (r.take 4)) : readN r at0 = ([], 0, 4) := by
  unfold readN; rw [if_neg (by omega), if_pos h1]
theorem readN_long {r : List Nat} {at0 : Nat} (h : 8 ≤ r.length) (h1 : num4 (r.drop 4) = extN 0 (r.take 4)) (h2 : 65536 < num4 r) : readN r at0 = ([], 0, 2) := by
  unfold readN; rw [if_neg (by omega), if_neg (by simpa using h1), if_pos h2]
theorem readN_end2 {r : List Nat} {at0 : Nat} (h : 8 ≤ r.length) (h1 : num4 (r.drop 4) = extN 0 (r.take 4)) (h2 : num4 r ≤ 65536) (h3 : r.length < num4 r + 12) : readN r at0 = ([], 0, 5) := by
  unfold readN; rw [if_neg (by omega), if_neg (by simpa using h1), if_neg (by omega), if_pos h3]
theorem readN_sum2 {r : List Nat} {at0 : Nat} (h : 8 ≤ r.length) (h1 : num4 (r.drop 4) = extN 0 (r.take 4)) (h2 : num4 r ≤ 65536) (h3 : num4 r + 12 ≤ r.length) (h4 : num4 (r.drop (8 + num4 r)) ≠ extN 0 ((r.drop 8).take (num4 r))) : readN r at0 = ([], 0, 4) := by
  unfold readN; rw [if_neg (by omega), if_neg (by simpa using h1), if_neg (by omega), if_neg (by omega), if_pos h4]
theorem readN_good {r : List Nat} {at0 : Nat} (h : 8 ≤ r.length) (h1 : num4 (r.drop 4) = extN 0 (r.take 4)) (h2 : num4 r ≤ 65536) (h3 : num4 r + 12 ≤ r.length) (h4 : num4 (r.drop (8 + num4 r)) = extN 0 ((r.drop 8).take (num4 r))) :
    readN r at0 = ((r.drop 8).take (num4 r), at0 + 12 + num4 r, 0) := by
  unfold readN; rw [if_neg (by omega), if_neg (by simpa using h1), if_neg (by omega), if_neg (by omega), if_neg (by simpa using h4)]

theorem drop_app {a b : List Nat} {k : Nat} (h : a.length = k) : (a ++ b).drop k = b := by subst h; simp
theorem take_app {a b : List Nat} {k : Nat} (h : a.length = k) : (a ++ b).take k = a := by subst h; simp

/-- What is read of bytes that begin as a frame. -/
theorem readN_frame (p rest : List Nat) (hp : p.length ≤ 65536) (at0 : Nat) : readN (frameN p ++ rest) at0 = (p, at0 + 12 + p.length, 0) := by
  have hs : extN 0 (le4 p.length) < 4294967296 := extN_lt 0 _ (by decide)
  have hs2 : extN 0 p < 4294967296 := extN_lt 0 _ (by decide)
  have e : frameN p ++ rest = le4 p.length ++ (le4 (extN 0 (le4 p.length)) ++ (p ++ (le4 (extN 0 p) ++ rest))) := by simp [frameN, List.append_assoc]
  have hn : num4 (frameN p ++ rest) = p.length := by rw [e]; exact num4_le4 _ (by omega) _
  have h8 : (frameN p ++ rest).drop 8 = p ++ (le4 (extN 0 p) ++ rest) := by
    rw [e, show (8 : Nat) = 4 + 4 from rfl, ← List.drop_drop, drop_app (le4_length _), drop_app (le4_length _)]
  have ht : ((frameN p ++ rest).drop 8).take p.length = p := by rw [h8, take_app rfl]
  rw [readN_good (at0 := at0)]
  · rw [hn, ht]
  · rw [List.length_append, frameN_length]; omega
  · rw [e, drop_app (le4_length _), take_app (le4_length _), num4_le4 _ hs]
  · omega
  · rw [hn, List.length_append, frameN_length]; omega
  · rw [hn, ht, ← List.drop_drop, h8, drop_app rfl, num4_le4 _ hs2]

/-- What is read of the beginning of a frame alone: an error. -/
theorem readN_part (p : List Nat) (hp : p.length ≤ 65536) (m : Nat) (hm : m < 12 + p.length) (at0 : Nat) : (readN ((frameN p).take m) at0).2.2 ≠ 0 := by
  have hs : extN 0 (le4 p.length) < 4294967296 := extN_lt 0 _ (by decide)
  have hlen : ((frameN p).take m).length = m := by rw [List.length_take, frameN_length]; omega
  by_cases h8 : m < 8
  · rw [readN_end1 (by omega)]; decide
  · have hn : num4 ((frameN p).take m) = p.length := by
      rw [num4_take _ _ (by omega)]
      show num4 (le4 p.length ++ _) = _
      exact num4_le4 _ (by omega) _
    rw [readN_end2 (by omega) ?_ (by omega) (by omega)]
    · decide
    · rw [List.drop_take, num4_take _ _ (by omega), List.take_take, show min 4 m = 4 by omega]
      show num4 ((le4 p.length ++ (le4 (extN 0 (le4 p.length)) ++ _)).drop 4) = extN 0 ((le4 p.length ++ _).take 4)
      rw [drop_app (le4_length _), take_app (le4_length _), num4_le4 _ hs]

theorem readN_nil (at0 : Nat) : (readN [] at0).2.2 ≠ 0 := by rw [readN_end1 (by simp)]; decide

/-- The good answer's parts. -/
theorem readN_ok {r : List Nat} {at0 : Nat} (h : (readN r at0).2.2 = 0) : readN r at0 = ((r.drop 8).take (num4 r), at0 + 12 + num4 r, 0) ∧ num4 r ≤ 65536 ∧ num4 r + 12 ≤ r.length ∧ num4 (r.drop 4) = extN 0 (r.take 4) ∧ num4 (r.drop (8 + num4 r)) = extN 0 ((r.drop 8).take (num4 r)) := by
  by_cases h0 : r.length < 8
  · rw [readN_end1 h0] at h; cases h
  by_cases h1 : num4 (r.drop 4) = extN 0 (r.take 4)
  · by_cases h2 : 65536 < num4 r
    · rw [readN_long (by omega) h1 h2] at h; cases h
    · by_cases h3 : r.length < num4 r + 12
      · rw [readN_end2 (by omega) h1 (by omega) h3] at h; cases h
      · by_cases h4 : num4 (r.drop (8 + num4 r)) = extN 0 ((r.drop 8).take (num4 r))
        · exact ⟨readN_good (by omega) h1 (by omega) (by omega) h4, by omega, by omega, h1, h4⟩
        · rw [readN_sum2 (by omega) h1 (by omega) (by omega) h4] at h; cases h
  · rw [readN_sum1 (by omega) h1] at h; cases h
theorem readN_err {r : List Nat} {at0 : Nat} (h : (readN r at0).2.2 ≠ 0) : (readN r at0).1 = [] ∧ (readN r at0).2.1 = 0 := by
  by_cases h0 : r.length < 8
  · rw [readN_end1 h0]; exact ⟨rfl, rfl⟩
  by_cases h1 : num4 (r.drop 4) = extN 0 (r.take 4)
  · by_cases h2 : 65536 < num4 r
    · rw [readN_long (by omega) h1 h2]; exact ⟨rfl, rfl⟩
    · by_cases h3 : r.length < num4 r + 12
      · rw [readN_end2 (by omega) h1 (by omega) h3]; exact ⟨rfl, rfl⟩
      · by_cases h4 : num4 (r.drop (8 + num4 r)) = extN 0 ((r.drop 8).take (num4 r))
        · rw [readN_good (by omega) h1 (by omega) (by omega) h4] at h; exact absurd rfl h
        · rw [readN_sum2 (by omega) h1 (by omega) (by omega) h4]; exact ⟨rfl, rfl⟩
  · rw [readN_sum1 (by omega) h1]; exact ⟨rfl, rfl⟩

/-- Of the bytes these payloads are told from the front, up to this place. -/
inductive Told (b : List Nat) : List (List Nat) → Nat → Prop
  | none : Told b [] 0
  | more {ps : List (List Nat)} {at0 : Nat} (p : List Nat) (to : Nat) : Told b ps at0 → nextN b at0 = (p, to, 0) → Told b (ps ++ [p]) to

/-- .. and no more. -/
def Done (b : List Nat) (at0 : Nat) : Prop := (nextN b at0).2.2 ≠ 0

theorem Told.le {b : List Nat} {ps : List (List Nat)} {at0 : Nat} (h : Told b ps at0) : at0 ≤ b.length ∧ 12 * ps.length ≤ at0 := by
  induction h with
  | none => simp
  | more p to _ h ih =>
    have h0 := readN_ok (r := b.drop _) (at0 := _) (by show (nextN b _).2.2 = 0; rw [h])
    obtain ⟨h1, h2, h3, _, _⟩ := h0
    have h4 : nextN b _ = _ := h1
    rw [h] at h4
    simp only [Prod.mk.injEq] at h4
    obtain ⟨_, h5, _⟩ := h4
    rw [List.length_drop] at h3
    simp only [List.length_append, List.length_cons, List.length_nil]
    omega

theorem told_snoc {b : List Nat} {ps : List (List Nat)} {p : List Nat} {to : Nat} (h : Told b (ps ++ [p]) to) : ∃ at0, Told b ps at0 ∧ nextN b at0 = (p, to, 0) := by
  generalize hq : ps ++ [p] = q at h
  cases h with
  | none => simp at hq
  | more p' to' h1 h2 =>
    have := List.append_inj' hq rfl
    obtain ⟨rfl, h3⟩ := this
    simp only [List.cons.injEq, and_true] at h3
    subst h3
    exact ⟨_, h1, h2⟩
theorem told_nil {b : List Nat} {to : Nat} (h : Told b [] to) : to = 0 := by
  generalize hq : ([] : List (List Nat)) = q at h
  cases h with
  | none => rfl
  | more p' to' h1 h2 => simp at hq

/-- As many payloads: the same ones, up to the same place. -/
theorem told_same {b : List Nat} : ∀ (n : Nat) {ps qs : List (List Nat)} {x y : Nat}, ps.length = n → qs.length = n → Told b ps x → Told b qs y → ps = qs ∧ x = y := by
  intro n
  induction n with
  | zero =>
    intro ps qs x y hp hq h1 h2
    obtain rfl : ps = [] := List.length_eq_zero_iff.1 hp
    obtain rfl : qs = [] := List.length_eq_zero_iff.1 hq
    exact ⟨rfl, (told_nil h1).trans (told_nil h2).symm⟩
  | succ n ih =>
    intro ps qs x y hp hq h1 h2
    rcases List.eq_nil_or_concat ps with rfl | ⟨ps', p, rfl⟩
    · simp at hp
    rcases List.eq_nil_or_concat qs with rfl | ⟨qs', q, rfl⟩
    · simp at hq
    rw [List.concat_eq_append] at *
    obtain ⟨a, ha, ha2⟩ := told_snoc h1
    obtain ⟨c, hc, hc2⟩ := told_snoc h2
    obtain ⟨rfl, rfl⟩ := ih (by simpa using hp) (by simpa using hq) ha hc
    rw [ha2] at hc2
    simp only [Prod.mk.injEq, and_true] at hc2
    obtain ⟨e1, e2⟩ := hc2
    exact ⟨by rw [e1]; simp, e2⟩
theorem told_take {b : List Nat} {ps : List (List Nat)} {x : Nat} (h : Told b ps x) : ∀ k, k ≤ ps.length → ∃ y, Told b (ps.take k) y := by
  induction h with
  | none => intro k hk; exact ⟨0, by simpa using Told.none⟩
  | more p to h1 h2 ih =>
    intro k hk
    simp only [List.length_append, List.length_cons, List.length_nil] at hk
    rename_i qs a0
    by_cases h : k ≤ qs.length
    · rw [List.take_append_of_le_length h]; exact ih k h
    · rw [List.take_of_length_le (by simp; omega)]
      exact ⟨to, .more p to h1 h2⟩
/-- Where one row of payloads is all, no other one is longer, and each is a beginning of it. -/
theorem told_done {b : List Nat} {ps qs : List (List Nat)} {x y : Nat} (h1 : Told b ps x) (h2 : Told b qs y) (hd : Done b y) : ps.length ≤ qs.length ∧ ps = qs.take ps.length := by
  have hle : ps.length ≤ qs.length := by
    refine Nat.le_of_not_lt fun hlt => ?_
    obtain ⟨z, hz⟩ := told_take h1 (qs.length + 1) (by omega)
    have e : ps.take (qs.length + 1) = ps.take qs.length ++ [ps[qs.length]] := List.take_succ_eq_append_getElem hlt
    rw [e] at hz
    obtain ⟨a, ha, ha2⟩ := told_snoc hz
    obtain ⟨h3, rfl⟩ := told_same _ (by simp; omega) rfl ha h2
    exact hd (by rw [ha2])
  refine ⟨hle, ?_⟩
  obtain ⟨z, hz⟩ := told_take h2 ps.length hle
  exact (told_same _ rfl (by simp; omega) h1 hz).1
theorem told_all {b : List Nat} {ps qs : List (List Nat)} {x y : Nat} (h1 : Told b ps x) (hd1 : Done b x) (h2 : Told b qs y) (hd : Done b y) : ps = qs ∧ x = y := by
  have a := told_done h1 h2 hd
  have c := told_done h2 h1 hd1
  exact told_same _ rfl (by omega) h1 h2

/-- Frames one behind the other. -/
def rowN (ps : List (List Nat)) : List Nat := (ps.map frameN).flatten
theorem rowN_snoc (ps : List (List Nat)) (p : List Nat) : rowN (ps ++ [p]) = rowN ps ++ frameN p := by simp [rowN]
theorem rowN_append (ps qs : List (List Nat)) : rowN (ps ++ qs) = rowN ps ++ rowN qs := by simp [rowN]
theorem rowN_lt {ps : List (List Nat)} (h : ∀ p ∈ ps, ∀ x ∈ p, x < 256) : ∀ x ∈ rowN ps, x < 256 := by
  intro x hx
  simp only [rowN, List.mem_flatten, List.mem_map] at hx
  obtain ⟨l, ⟨p, hp, rfl⟩, hx⟩ := hx
  exact frameN_lt (h p hp) x hx

/-- Of frames one behind the other, whatever stands behind them, the payloads are told. -/
theorem told_row (rest : List Nat) : ∀ (ps : List (List Nat)), (∀ p ∈ ps, p.length ≤ 65536) → Told (rowN ps ++ rest) ps (rowN ps).length := by
  have key : ∀ (n : Nat) (ps : List (List Nat)) (rest : List Nat), ps.length = n → (∀ p ∈ ps, p.length ≤ 65536) → Told (rowN ps ++ rest) ps (rowN ps).length := by
    intro n
    induction n with
    | zero => intro ps rest hn _; obtain rfl : ps = [] := List.length_eq_zero_iff.1 hn; exact .none
    | succ n ih =>
      intro ps rest hn hp
      rcases List.eq_nil_or_concat ps with rfl | ⟨ps', p, rfl⟩
      · simp at hn
      rw [List.concat_eq_append] at *
      have h := ih ps' (frameN p ++ rest) (by simpa using hn) (fun q hq => hp q (by simp [hq]))
      have e : rowN (ps' ++ [p]) ++ rest = rowN ps' ++ (frameN p ++ rest) := by rw [rowN_snoc, List.append_assoc]
      rw [e]
      refine .more p _ h ?_
      unfold nextN
      rw [drop_app rfl, readN_frame p rest (hp p (by simp))]
      rw [rowN_snoc, List.length_append, frameN_length, Nat.add_assoc]
  intro ps hp
  exact key _ ps rest rfl hp

/-- .. and where what stands behind them is no frame's beginning, no more. -/
theorem done_row {ps : List (List Nat)} {rest : List Nat} (h : ∀ at0, (readN rest at0).2.2 ≠ 0) : Done (rowN ps ++ rest) (rowN ps).length := by
  unfold Done nextN; rw [drop_app rfl]; exact h _

/-- A row cut short: the payloads that are whole, and no more. -/
theorem told_short {ps : List (List Nat)} (hp : ∀ p ∈ ps, p.length ≤ 65536) (short n : Nat) (hn : n ≤ ps.length) (h1 : (rowN (ps.take n)).length ≤ short) (h2 : n = ps.length ∨ short < (rowN (ps.take (n + 1))).length) :
    Told ((rowN ps).take short) (ps.take n) (rowN (ps.take n)).length ∧ Done ((rowN ps).take short) (rowN (ps.take n)).length := by
  have e : rowN ps = rowN (ps.take n) ++ rowN (ps.drop n) := by rw [← rowN_append, List.take_append_drop]
  have e2 : (rowN ps).take short = rowN (ps.take n) ++ (rowN (ps.drop n)).take (short - (rowN (ps.take n)).length) := by
    rw [e, List.take_append, List.take_of_length_le h1]
  rw [e2]
  refine ⟨told_row _ _ (fun p hp' => hp p (List.mem_of_mem_take hp')), done_row fun at0 => ?_⟩
  rcases h2 with rfl | h2
  · rw [List.drop_of_length_le (Nat.le_refl _)]
    show (readN (([] : List Nat).take _) at0).2.2 ≠ 0
    rw [List.take_nil]; exact readN_nil _
  · by_cases hnl : n < ps.length
    · have e3 : ps.drop n = ps[n] :: ps.drop (n + 1) := List.drop_eq_getElem_cons hnl
      have e4 : ps.take (n + 1) = ps.take n ++ [ps[n]] := List.take_succ_eq_append_getElem hnl
      rw [e4, rowN_snoc, List.length_append, frameN_length] at h2
      have e5 : rowN (ps.drop n) = frameN ps[n] ++ rowN (ps.drop (n + 1)) := by rw [e3]; rfl
      rw [e5, List.take_append_of_le_length (by rw [frameN_length]; omega)]
      exact readN_part _ (hp _ (List.getElem_mem _)) _ (by omega) _
    · obtain rfl : n = ps.length := by omega
      rw [List.drop_of_length_le (Nat.le_refl _)]
      show (readN (([] : List Nat).take _) at0).2.2 ≠ 0
      rw [List.take_nil]; exact readN_nil _

end Go.Proofs.YtmflcpkkeejjpaaDoor.Frame
