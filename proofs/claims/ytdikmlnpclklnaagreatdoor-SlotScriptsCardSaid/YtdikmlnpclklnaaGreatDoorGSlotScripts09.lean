/-
  Put together out of texts of one chain: what they hold stands ahead of each.
-/
import Derived.Test.YtdikmlnpclklnaaGreatDoorGSlotScripts08
import Derived.Test.YtdikmlnpclklnaaGreatDoorSame
import Derived.Deep.QuietTactic
import Derived.BigQuiet
import Derived.IntWalk
import Derived.WalkSmall
import Derived.Laws.Cover3
import Derived.Deep.RegionWith
/-
  Plain facts on frames: a number's four bytes, a payload's frame, what is read at a place, and rows of frames.
-/
namespace Go.Proofs.YtdikmlnpclklnaaGreatDoor.Frame
open Go.Proofs.YtdikmlnpclklnaaGreatDoor.Crc

/-- A number's four bytes, the lowest first; and the number of four bytes. -/
def le4 (n : Nat) : List Nat := [n % 256, n / 256 % 256, n / 65536 % 256, n / 16777216 % 256]
def num4 (b : List Nat) : Nat := b.getD 0 0 + 256 * (b.getD 1 0 + 256 * (b.getD 2 0 + 256 * b.getD 3 0))

theorem le4_length (n : Nat) : (le4 n).length = 4 := rfl
theorem le4_lt (n : Nat) : ∀ x ∈ le4 n, x < 256 := by
  intro x hx
  simp only [le4, List.mem_cons, List.not_mem_nil, or_false] at hx
  omega
theorem num4_le4 (n : Nat) (h : n < 4294967296) (r : List Nat) : num4 (le4 n ++ r) = n := by
  simp only [num4, le4, List.cons_append, List.getD_cons_zero, List.getD_cons_succ]
  omega
theorem getD_lt' {l : List Nat} (h : ∀ x ∈ l, x < 256) (k : Nat) : l.getD k 0 < 256 := by
  by_cases hk : k < l.length
  · have : l.getD k 0 = l[k] := by simp [List.getD, hk]
    rw [this]; exact h _ (List.getElem_mem _)
  · have : l.getD k 0 = 0 := by simp [List.getD, List.getElem?_eq_none (show l.length ≤ k by omega)]
    omega
theorem num4_lt {b : List Nat} (h : ∀ x ∈ b, x < 256) : num4 b < 4294967296 := by
  have h0 := getD_lt' h 0
  have h1 := getD_lt' h 1
  have h2 := getD_lt' h 2
  have h3 := getD_lt' h 3
  unfold num4; omega
theorem le4_num4 {b : List Nat} (h : ∀ x ∈ b, x < 256) (hl : 4 ≤ b.length) : le4 (num4 b) = b.take 4 := by
  match b, hl with
  | a :: b :: c :: d :: r, _ =>
    have h0 := h a (by simp)
    have h1 := h b (by simp)
    have h2 := h c (by simp)
    have h3 := h d (by simp)
    simp only [num4, le4, List.getD_cons_zero, List.getD_cons_succ, List.take_succ_cons, List.take_zero, List.cons.injEq, and_true]
    omega
theorem num4_take (b : List Nat) (k : Nat) (hk : 4 ≤ k) : num4 (b.take k) = num4 b := by
  have h : ∀ j, j < 4 → (b.take k).getD j 0 = b.getD j 0 := by
    intro j hj
    simp only [List.getD_eq_getElem?_getD]
    rw [List.getElem?_take, if_pos (by omega)]
  unfold num4
  rw [h 0 (by omega), h 1 (by omega), h 2 (by omega), h 3 (by omega)]

theorem getD_piece (b : List Nat) (i l j : Nat) : ((b.drop i).take l).getD j 0 = if j < l then b.getD (i + j) 0 else 0 := by
  simp only [List.getD_eq_getElem?_getD]
  rw [List.getElem?_take]
  split
  · rw [List.getElem?_drop]
  · rfl

/-- The frame of a payload. -/
def frameN (p : List Nat) : List Nat := le4 p.length ++ (le4 (extN 0 (le4 p.length)) ++ (p ++ le4 (extN 0 p)))
theorem frameN_length (p : List Nat) : (frameN p).length = 12 + p.length := by
  simp only [frameN, List.length_append, le4_length]; omega
theorem frameN_lt {p : List Nat} (h : ∀ x ∈ p, x < 256) : ∀ x ∈ frameN p, x < 256 := by
  intro x hx
  simp only [frameN, List.mem_append] at hx
  rcases hx with hx | hx | hx | hx
  · exact le4_lt _ x hx
  · exact le4_lt _ x hx
  · exact h x hx
  · exact le4_lt _ x hx

/-- What is read of the bytes from a place on: the payload, the place behind, the error. -/
def readN (r : List Nat) (at0 : Nat) : List Nat × Nat × Nat :=
  if r.length < 8 then ([], 0, 5)
  else if num4 (r.drop 4) ≠ extN 0 (r.take 4) then ([], 0, 4)
  else if 65536 < num4 r then ([], 0, 2)
  else if r.length < num4 r + 12 then ([], 0, 5)
  else if num4 (r.drop (8 + num4 r)) ≠ extN 0 ((r.drop 8).take (num4 r)) then ([], 0, 4)
  else ((r.drop 8).take (num4 r), at0 + 12 + num4 r, 0)
def nextN (b : List Nat) (at0 : Nat) : List Nat × Nat × Nat := readN (b.drop at0) at0

theorem readN_end1 {r : List Nat} {at0 : Nat} (h : r.length < 8) : readN r at0 = ([], 0, 5) := by
  unfold readN; rw [if_pos h]
theorem readN_sum1 {r : List Nat} {at0 : Nat} (h : 8 ≤ r.length) (h1 : num4 (r.drop 4) ≠ extN 0 (r.take 4)) : readN r at0 = ([], 0, 4) := by
  unfold readN; rw [if_neg (by omega), if_pos h1]
theorem readN_long {r : List Nat} {at0 : Nat} (h : 8 ≤ r.length) (h1 : num4 (r.drop 4) = extN 0 (r.take 4)) (h2 : 65536 < num4 r) : readN r at0 = ([], 0, 2) := by
  unfold readN; rw [if_neg (by omega), if_neg (by simpa using h1), if_pos h2]
theorem readN_end2 {r : List Nat} {at0 : Nat} (h : 8 ≤ r.length) (h1 : num4 (r.drop 4) = extN 0 (r.take 4)) (h2 : num4 r ≤ 65536) (h3 : r.length < num4 r + 12) : readN r at0 = ([], 0, 5) := by
  unfold readN; rw [if_neg (by omega), if_neg (by simpa using h1), if_neg (by omega), if_pos h3]
theorem readN_sum2 {r : List Nat} {at0 : Nat} (h : 8 ≤ r.length) (h1 : num4 (r.drop 4) = extN 0 (r.take 4)) (h2 : num4 r ≤ 65536) (h3 : num4 r + 12 ≤ r.length) (h4 : num4 (r.drop (8 + num4 r)) ≠ extN 0 ((r.drop 8).take (num4 r))) : readN r at0 = ([], 0, 4) := by
  unfold readN; rw [if_neg (by omega), if_neg (by simpa using h1), if_neg (by omega), if_neg (by omega), if_pos h4]
theorem readN_good {r : List Nat} {at0 : Nat} (h : 8 ≤ r.length) (h1 : num4 (r.drop 4) = extN 0 (r.take 4)) (h2 : num4 r ≤ 65536) (h3 : num4 r + 12 ≤ r.length) (h4 : num4 (r.drop (8 + num4 r)) = extN 0 ((r.drop 8).take (num4 r))) :
    readN r at0 = ((r.drop 8).take (num4 r), at0 + 12 + num4 r, 0) := by
  unfold readN; rw [if_neg (by omega), if_neg (by simpa using h1), if_neg (by omega), if_neg (by omega), if_neg (by simpa using h4)]

theorem drop_app {a b : List Nat} {k : Nat} (h : a.length = k) : (a ++ b).drop k = b := by subst h; simp
theorem take_app {a b : List Nat} {k : Nat} (h : a.length = k) : (a ++ b).take k = a := by subst h; simp

/-- What is read of bytes that begin as a frame. -/
theorem readN_frame (p rest : List Nat) (hp : p.length ≤ 65536) (at0 : Nat) : readN (frameN p ++ rest) at0 = (p, at0 + 12 + p.length, 0) := by
  have hs : extN 0 (le4 p.length) < 4294967296 := extN_lt 0 _ (by decide)
  have hs2 : extN 0 p < 4294967296 := extN_lt 0 _ (by decide)
  have e : frameN p ++ rest = le4 p.length ++ (le4 (extN 0 (le4 p.length)) ++ (p ++ (le4 (extN 0 p) ++ rest))) := by simp [frameN, List.append_assoc]
  have hn : num4 (frameN p ++ rest) = p.length := by rw [e]; exact num4_le4 _ (by omega) _
  have h8 : (frameN p ++ rest).drop 8 = p ++ (le4 (extN 0 p) ++ rest) := by
    rw [e, show (8 : Nat) = 4 + 4 from rfl, ← List.drop_drop, drop_app (le4_length _), drop_app (le4_length _)]
  have ht : ((frameN p ++ rest).drop 8).take p.length = p := by rw [h8, take_app rfl]
  rw [readN_good (at0 := at0)]
  · rw [hn, ht]
  · rw [List.length_append, frameN_length]; omega
  · rw [e, drop_app (le4_length _), take_app (le4_length _), num4_le4 _ hs]
  · omega
  · rw [hn, List.length_append, frameN_length]; omega
  · rw [hn, ht, ← List.drop_drop, h8, drop_app rfl, num4_le4 _ hs2]

/-- What is read of the beginning of a frame alone: an error. -/
theorem readN_part (p : List Nat) (hp : p.length ≤ 65536) (m : Nat) (hm : m < 12 + p.length) (at0 : Nat) : (readN ((frameN p).take m) at0).2.2 ≠ 0 := by
  have hs : extN 0 (le4 p.length) < 4294967296 := extN_lt 0 _ (by decide)
  have hlen : ((frameN p).take m).length = m := by rw [List.length_take, frameN_length]; omega
  by_cases h8 : m < 8
  · rw [readN_end1 (by omega)]; decide
  · have hn : num4 ((frameN p).take m) = p.length := by
      rw [num4_take _ _ (by omega)]
      show num4 (le4 p.length ++ _) = _
      exact num4_le4 _ (by omega) _
    rw [readN_end2 (by omega) ?_ (by omega) (by omega)]
    · decide
    · rw [List.drop_take, num4_take _ _ (by omega), List.take_take, show min 4 m = 4 by omega]
      show num4 ((le4 p.length ++ (le4 (extN 0 (le4 p.length)) ++ _)).drop 4) = extN 0 ((le4 p.length ++ _).take 4)
      rw [drop_app (le4_length _), take_app (le4_length _), num4_le4 _ hs]

theorem readN_nil (at0 : Nat) : (readN [] at0).2.2 ≠ 0 := by rw [readN_end1 (by simp)]; decide

/-- The good answer's parts. -/
theorem readN_ok {r : List Nat} {at0 : Nat} (h : (readN r at0).2.2 = 0) : readN r at0 = ((r.drop 8).take (num4 r), at0 + 12 + num4 r, 0) ∧ num4 r ≤ 65536 ∧ num4 r + 12 ≤ r.length ∧ num4 (r.drop 4) = extN 0 (r.take 4) ∧ num4 (r.drop (8 + num4 r)) = extN 0 ((r.drop 8).take (num4 r)) := by
  by_cases h0 : r.length < 8
  · rw [readN_end1 h0] at h; cases h
  by_cases h1 : num4 (r.drop 4) = extN 0 (r.take 4)
  · by_cases h2 : 65536 < num4 r
    · rw [readN_long (by omega) h1 h2] at h; cases h
    · by_cases h3 : r.length < num4 r + 12
      · rw [readN_end2 (by omega) h1 (by omega) h3] at h; cases h
      · by_cases h4 : num4 (r.drop (8 + num4 r)) = extN 0 ((r.drop 8).take (num4 r))
        · exact ⟨readN_good (by omega) h1 (by omega) (by omega) h4, by omega, by omega, h1, h4⟩
        · rw [readN_sum2 (by omega) h1 (by omega) (by omega) h4] at h; cases h
  · rw [readN_sum1 (by omega) h1] at h; cases h
theorem readN_err {r : List Nat} {at0 : Nat} (h : (readN r at0).2.2 ≠ 0) : (readN r at0).1 = [] ∧ (readN r at0).2.1 = 0 := by
  by_cases h0 : r.length < 8
  · rw [readN_end1 h0]; exact ⟨rfl, rfl⟩
  by_cases h1 : num4 (r.drop 4) = extN 0 (r.take 4)
  · by_cases h2 : 65536 < num4 r
    · rw [readN_long (by omega) h1 h2]; exact ⟨rfl, rfl⟩
    · by_cases h3 : r.length < num4 r + 12
      · rw [readN_end2 (by omega) h1 (by omega) h3]; exact ⟨rfl, rfl⟩
      · by_cases h4 : num4 (r.drop (8 + num4 r)) = extN 0 ((r.drop 8).take (num4 r))
        · rw [readN_good (by omega) h1 (by omega) (by omega) h4] at h; exact absurd rfl h
        · rw [readN_sum2 (by omega) h1 (by omega) (by omega) h4]; exact ⟨rfl, rfl⟩
  · rw [readN_sum1 (by omega) h1]; exact ⟨rfl, rfl⟩

/-- Of the bytes these payloads are told from the front, up to this place. -/
inductive Told (b : List Nat) : List (List Nat) → Nat → Prop
  | none : Told b [] 0
  | more {ps : List (List Nat)} {at0 : Nat} (p : List Nat) (to : Nat) : Told b ps at0 → nextN b at0 = (p, to, 0) → Told b (ps ++ [p]) to

/-- .. and no more. -/
def Done (b : List Nat) (at0 : Nat) : Prop := (nextN b at0).2.2 ≠ 0

theorem Told.le {b : List Nat} {ps : List (List Nat)} {at0 : Nat} (h : Told b ps at0) : at0 ≤ b.length ∧ 12 * ps.length ≤ at0 := by
  induction h with
  | none => simp
  | more p to _ h ih =>
    have h0 := readN_ok (r := b.drop _) (at0 := _) (by show (nextN b _).2.2 = 0; rw [h])
    obtain ⟨h1, h2, h3, _, _⟩ := h0
    have h4 : nextN b _ = _ := h1
    rw [h] at h4
    simp only [Prod.mk.injEq] at h4
    obtain ⟨_, h5, _⟩ := h4
    rw [List.length_drop] at h3
    simp only [List.length_append, List.length_cons, List.length_nil]
    omega

theorem told_snoc {b : List Nat} {ps : List (List Nat)} {p : List Nat} {to : Nat} (h : Told b (ps ++ [p]) to) : ∃ at0, Told b ps at0 ∧ nextN b at0 = (p, to, 0) := by
  generalize hq : ps ++ [p] = q at h
  cases h with
  | none => simp at hq
  | more p' to' h1 h2 =>
    have := List.append_inj' hq rfl
    obtain ⟨rfl, h3⟩ := this
    simp only [List.cons.injEq, and_true] at h3
    subst h3
    exact ⟨_, h1, h2⟩
theorem told_nil {b : List Nat} {to : Nat} (h : Told b [] to) : to = 0 := by
  generalize hq : ([] : List (List Nat)) = q at h
  cases h with
  | none => rfl
  | more p' to' h1 h2 => simp at hq

/-- As many payloads: the same ones, up to the same place. -/
theorem told_same {b : List Nat} : ∀ (n : Nat) {ps qs : List (List Nat)} {x y : Nat}, ps.length = n → qs.length = n → Told b ps x → Told b qs y → ps = qs ∧ x = y := by
  intro n
  induction n with
  | zero =>
    intro ps qs x y hp hq h1 h2
    obtain rfl : ps = [] := List.length_eq_zero_iff.1 hp
    obtain rfl : qs = [] := List.length_eq_zero_iff.1 hq
    exact ⟨rfl, (told_nil h1).trans (told_nil h2).symm⟩
  | succ n ih =>
    intro ps qs x y hp hq h1 h2
    rcases List.eq_nil_or_concat ps with rfl | ⟨ps', p, rfl⟩
    · simp at hp
    rcases List.eq_nil_or_concat qs with rfl | ⟨qs', q, rfl⟩
    · simp at hq
    rw [List.concat_eq_append] at *
    obtain ⟨a, ha, ha2⟩ := told_snoc h1
    obtain ⟨c, hc, hc2⟩ := told_snoc h2
    obtain ⟨rfl, rfl⟩ := ih (by simpa using hp) (by simpa using hq) ha hc
    rw [ha2] at hc2
    simp only [Prod.mk.injEq, and_true] at hc2
    obtain ⟨e1, e2⟩ := hc2
    exact ⟨by rw [e1]; simp, e2⟩
theorem told_take {b : List Nat} {ps : List (List Nat)} {x : Nat} (h : Told b ps x) : ∀ k, k ≤ ps.length → ∃ y, Told b (ps.take k) y := by
  induction h with
  | none => intro k hk; exact ⟨0, by simpa using Told.none⟩
  | more p to h1 h2 ih =>
    intro k hk
    simp only [List.length_append, List.length_cons, List.length_nil] at hk
    rename_i qs a0
    by_cases h : k ≤ qs.length
    · rw [List.take_append_of_le_length h]; exact ih k h
    · rw [List.take_of_length_le (by simp; omega)]
      exact ⟨to, .more p to h1 h2⟩
/-- Where one row of payloads is all, no other one is longer, and each is a beginning of it. -/
theorem told_done {b : List Nat} {ps qs : List (List Nat)} {x y : Nat} (h1 : Told b ps x) (h2 : Told b qs y) (hd : Done b y) : ps.length ≤ qs.length ∧ ps = qs.take ps.length := by
  have hle : ps.length ≤ qs.length := by
    refine Nat.le_of_not_lt fun hlt => ?_
    obtain ⟨z, hz⟩ := told_take h1 (qs.length + 1) (by omega)
    have e : ps.take (qs.length + 1) = ps.take qs.length ++ [ps[qs.length]] := List.take_succ_eq_append_getElem hlt
    rw [e] at hz
    obtain ⟨a, ha, ha2⟩ := told_snoc hz
    obtain ⟨h3, rfl⟩ := told_same _ (by simp; omega) rfl ha h2
    exact hd (by rw [ha2])
  refine ⟨hle, ?_⟩
  obtain ⟨z, hz⟩ := told_take h2 ps.length hle
  exact (told_same _ rfl (by simp; omega) h1 hz).1
theorem told_all {b : List Nat} {ps qs : List (List Nat)} {x y : Nat} (h1 : Told b ps x) (hd1 : Done b x) (h2 : Told b qs y) (hd : Done b y) : ps = qs ∧ x = y := by
  have a := told_done h1 h2 hd
  have c := told_done h2 h1 hd1
  exact told_same _ rfl (by omega) h1 h2

/-- Frames one behind the other. -/
def rowN (ps : List (List Nat)) : List Nat := (ps.map frameN).flatten
theorem rowN_snoc (ps : List (List Nat)) (p : List Nat) : rowN (ps ++ [p]) = rowN ps ++ frameN p := by simp [rowN]
theorem rowN_append (ps qs : List (List Nat)) : rowN (ps ++ qs) = rowN ps ++ rowN qs := by simp [rowN]
theorem rowN_lt {ps : List (List Nat)} (h : ∀ p ∈ ps, ∀ x ∈ p, x < 256) : ∀ x ∈ rowN ps, x < 256 := by
  intro x hx
  simp only [rowN, List.mem_flatten, List.mem_map] at hx
  obtain ⟨l, ⟨p, hp, rfl⟩, hx⟩ := hx
  exact frameN_lt (h p hp) x hx

/-- Of frames one behind the other, whatever stands behind them, the payloads are told. -/
theorem told_row (rest : List Nat) : ∀ (ps : List (List Nat)), (∀ p ∈ ps, p.length ≤ 65536) → Told (rowN ps ++ rest) ps (rowN ps).length := by
  have key : ∀ (n : Nat) (ps : List (List Nat)) (rest : List Nat), ps.length = n → (∀ p ∈ ps, p.length ≤ 65536) → Told (rowN ps ++ rest) ps (rowN ps).length := by
    intro n
    induction n with
    | zero => intro ps rest hn _; obtain rfl : ps = [] := List.length_eq_zero_iff.1 hn; exact .none
    | succ n ih =>
      intro ps rest hn hp
      rcases List.eq_nil_or_concat ps with rfl | ⟨ps', p, rfl⟩
      · simp at hn
      rw [List.concat_eq_append] at *
      have h := ih ps' (frameN p ++ rest) (by simpa using hn) (fun q hq => hp q (by simp [hq]))
      have e : rowN (ps' ++ [p]) ++ rest = rowN ps' ++ (frameN p ++ rest) := by rw [rowN_snoc, List.append_assoc]
      rw [e]
      refine .more p _ h ?_
      unfold nextN
      rw [drop_app rfl, readN_frame p rest (hp p (by simp))]
      rw [rowN_snoc, List.length_append, frameN_length, Nat.add_assoc]
  intro ps hp
  exact key _ ps rest rfl hp

/-- .. and where what stands behind them is no frame's beginning, no more. -/
theorem done_row {ps : List (List Nat)} {rest : List Nat} (h : ∀ at0, (readN rest at0).2.2 ≠ 0) : Done (rowN ps ++ rest) (rowN ps).length := by
  unfold Done nextN; rw [drop_app rfl]; exact h _

/-- A row cut short: the payloads that are whole, and no more. -/
theorem told_short {ps : List (List Nat)} (hp : ∀ p ∈ ps, p.length ≤ 65536) (short n : Nat) (hn : n ≤ ps.length) (h1 : (rowN (ps.take n)).length ≤ short) (h2 : n = ps.length ∨ short < (rowN (ps.take (n + 1))).length) :
    Told ((rowN ps).take short) (ps.take n) (rowN (ps.take n)).length ∧ Done ((rowN ps).take short) (rowN (ps.take n)).length := by
  have e : rowN ps = rowN (ps.take n) ++ rowN (ps.drop n) := by rw [← rowN_append, List.take_append_drop]
  have e2 : (rowN ps).take short = rowN (ps.take n) ++ (rowN (ps.drop n)).take (short - (rowN (ps.take n)).length) := by
    rw [e, List.take_append, List.take_of_length_le h1]
  rw [e2]
  refine ⟨told_row _ _ (fun p hp' => hp p (List.mem_of_mem_take hp')), done_row fun at0 => ?_⟩
  rcases h2 with rfl | h2
  · rw [List.drop_of_length_le (Nat.le_refl _)]
    show (readN (([] : List Nat).take _) at0).2.2 ≠ 0
    rw [List.take_nil]; exact readN_nil _
  · by_cases hnl : n < ps.length
    · have e3 : ps.drop n = ps[n] :: ps.drop (n + 1) := List.drop_eq_getElem_cons hnl
      have e4 : ps.take (n + 1) = ps.take n ++ [ps[n]] := List.take_succ_eq_append_getElem hnl
      rw [e4, rowN_snoc, List.length_append, frameN_length] at h2
      have e5 : rowN (ps.drop n) = frameN ps[n] ++ rowN (ps.drop (n + 1)) := by rw [e3]; rfl
      rw [e5, List.take_append_of_le_length (by rw [frameN_length]; omega)]
      exact readN_part _ (hp _ (List.getElem_mem _)) _ (by omega) _
    · obtain rfl : n = ps.length := by omega
      rw [List.drop_of_length_le (Nat.le_refl _)]
      show (readN (([] : List Nat).take _) at0).2.2 ≠ 0
      rw [List.take_nil]; exact readN_nil _

end Go.Proofs.YtdikmlnpclklnaaGreatDoor.Frame

/-
  Contracts of the project's package frame and of the document's own answer: a number's four bytes, put behind bytes and read; a copy of bytes.
-/
namespace Go.Proofs.YtdikmlnpclklnaaGreatDoor.Frame
open Go.RowKit Go.Shelf Go.Proofs.YtdikmlnpclklnaaGreatDoor.Law Go.Proofs.YtdikmlnpclklnaaGreatDoor.Crc

/-- Bytes of the call's own are handed back, and nothing below the base has turned. -/
def Owned (base : Nat) (w : World) (bs : List Nat) (e : Ending) (W : World) : Prop := ∃ v, e = .returned v ∧ OwnB W base 5 v bs ∧ Below base w W

theorem info_u8' : (Tryz.prog.info? 5).map (fun i => (i.zero, i.size, i.bytes)) = some (some (.int .u8 0), 1, 1) := by kernel_rfl

set_option maxHeartbeats 1000000 in
theorem frameLen_calls (n : Nat) (hn : n ≤ 281474976710656) (w : World) :
    Calls Tryz.prog 82 #[.int .i64 (n : Nat)] w fun e W' => e = .returned (.int .i64 ((n + 12 : Nat) : Int)) ∧ w = W' := by
  have h1 : 8 + (n : Int) ≤ 1000000000000000000 := by omega
  go_enter Tryz.func82, Tryz.ntmps82
  go_wp2
  go_ret
  exact ⟨by rw [show ((n + 12 : Nat) : Int) = 8 + (n : Int) + 4 by omega]; rfl, rfl⟩

set_option maxRecDepth 100000 in
set_option maxHeartbeats 1000000 in
theorem appendNum_calls (v : Value) (xs : List Nat) (hx : xs.length ≤ 1048576) (n : Nat) (hn : n < 4294967296) (base : Nat) (w : World) (hO : OwnB w base 5 v xs) (hb : base ≤ w.heap.size) :
    Calls Tryz.prog 83 #[v, .int .u32 (n : Nat)] w (Owned base w (xs ++ le4 n)) := by
  obtain ⟨i0, hi, hz0, hz1, hz2⟩ := info_parts info_u8'
  have hB1 : ∀ o, Below base w (w.alloc o) := fun o => (Below.refl _ w).alloc hb o
  go_enter Tryz.func83, Tryz.ntmps83
  go_wp2_with (at_builtin; refine wpList_append_bytes rfl _ _ _ rfl Tryz.underlying29 hi hz0 hz1 hz2 rfl rfl rfl (hO.alloc _) (Bytes.lit w _ _ (le4 n) 4 (by rfl) (by decide) ?lit (le4_lt n)) (by rw [le4_length]; omega) (by simp; omega) ?next)
  case lit =>
    have e : n / 16777216 % 256 = n / 16777216 := by omega
    simp [vals, le4, e]
  case next =>
    intro v' w' O' G'
    go_wp2
    go_ret
    exact ⟨v', rfl, O', below_append (hB1 _) G' (hO.alloc _) (Nat.le_refl _) (by simp; omega)⟩

theorem or_join (x y i m : Nat) (hm : 2 ^ i = m) (hx : x < m) (h : x + m * y < 4294967296) : bits .or .u32 (x : Int) ((m * y : Nat) : Int) = ((x + m * y : Nat) : Int) := by
  subst hm
  rw [u32_or_nat _ _ (by omega) (by omega), Nat.or_comm, nat_join i (2 ^ i * y) x (by rw [Nat.mul_mod_right]) hx, Nat.add_comm]

set_option maxRecDepth 100000 in
set_option maxHeartbeats 2000000 in
/-- The number at the front of bytes. -/
theorem num_calls (sv : Value) (bs : List Nat) (h4 : 4 ≤ bs.length) (hreach : bs.length ≤ 140737488351232) (w : World) {n : Nat} (hI : Bytes n w sv bs) :
    Calls Tryz.prog 127 #[sv] w fun e W' => e = .returned (.int .u32 (num4 bs : Nat)) ∧ Below w.heap.size w W' := by
  obtain ⟨A, cap, rfl⟩ := hI.form
  have h256 := hI.lt
  obtain ⟨b, off, rfl, hb, hc⟩ := hI.cells (by omega)
  have c0 := hc 0 (by omega)
  have c1 := hc 1 (by omega)
  have c2 := hc 2 (by omega)
  have c3 := hc 3 (by omega)
  have x0 := getD_lt' h256 0
  have x1 := getD_lt' h256 1
  have x2 := getD_lt' h256 2
  have x3 := getD_lt' h256 3
  obtain ⟨N, hN⟩ : ∃ N, num4 bs = N := ⟨_, rfl⟩
  rw [hN]
  unfold num4 at hN
  obtain ⟨len, hlen⟩ : ∃ len, bs.length = len := ⟨_, rfl⟩
  rw [hlen] at h4 hreach ⊢
  obtain ⟨b0, e0⟩ : ∃ x, bs.getD 0 0 = x := ⟨_, rfl⟩
  obtain ⟨b1, e1⟩ : ∃ x, bs.getD 1 0 = x := ⟨_, rfl⟩
  obtain ⟨b2, e2⟩ : ∃ x, bs.getD 2 0 = x := ⟨_, rfl⟩
  obtain ⟨b3, e3⟩ : ∃ x, bs.getD 3 0 = x := ⟨_, rfl⟩
  rw [e0] at c0 x0 hN
  rw [e1] at c1 x1 hN
  rw [e2] at c2 x2 hN
  rw [e3] at c3 x3 hN
  rw [Nat.add_zero] at c0
  clear hI h256 hc hlen e0 e1 e2 e3
  have hval : bits .or .u32 (bits .or .u32 (bits .or .u32 (b0 : Int) ((b1 : Int) * 256)) ((b2 : Int) * 65536)) ((b3 : Int) * 16777216) = (N : Int) := by
    rw [show (b1 : Int) * 256 = ((256 * b1 : Nat) : Int) by omega, or_join b0 b1 8 256 (by decide) (by omega) (by omega),
      show (b2 : Int) * 65536 = ((65536 * b2 : Nat) : Int) by omega, or_join _ b2 16 65536 (by decide) (by omega) (by omega),
      show (b3 : Int) * 16777216 = ((16777216 * b3 : Nat) : Int) by omega, or_join _ b3 24 16777216 (by decide) (by omega) (by omega)]
    omega
  have HV := Lib.hid hval
  clear hval hN
  go_enter Tryz.func127, Tryz.ntmps127
  go_wp2
  go_quiet (fail)
  go_wp2
  go_ret
  exact ⟨congrArg (fun z => Ending.returned (Value.int .u32 z)) HV.out, below_drewN (Below.refl _ _) _⟩

set_option maxRecDepth 100000 in
set_option maxHeartbeats 2000000 in
/-- .. by the document's own answer. -/
theorem number_calls (sv : Value) (bs : List Nat) (h4 : 4 ≤ bs.length) (hreach : bs.length ≤ 140737488351232) (w : World) {n : Nat} (hI : Bytes n w sv bs) :
    Calls Tryz.prog 120 #[sv] w fun e W' => e = .returned (.int .i64 (num4 bs : Nat)) ∧ Below w.heap.size w W' := by
  obtain ⟨A, cap, rfl⟩ := hI.form
  have h256 := hI.lt
  obtain ⟨b, off, rfl, hb, hc⟩ := hI.cells (by omega)
  have c0 := hc 0 (by omega)
  have c1 := hc 1 (by omega)
  have c2 := hc 2 (by omega)
  have c3 := hc 3 (by omega)
  have x0 := getD_lt' h256 0
  have x1 := getD_lt' h256 1
  have x2 := getD_lt' h256 2
  have x3 := getD_lt' h256 3
  obtain ⟨N, hN⟩ : ∃ N, num4 bs = N := ⟨_, rfl⟩
  rw [hN]
  unfold num4 at hN
  obtain ⟨len, hlen⟩ : ∃ len, bs.length = len := ⟨_, rfl⟩
  rw [hlen] at h4 hreach ⊢
  obtain ⟨b0, e0⟩ : ∃ x, bs.getD 0 0 = x := ⟨_, rfl⟩
  obtain ⟨b1, e1⟩ : ∃ x, bs.getD 1 0 = x := ⟨_, rfl⟩
  obtain ⟨b2, e2⟩ : ∃ x, bs.getD 2 0 = x := ⟨_, rfl⟩
  obtain ⟨b3, e3⟩ : ∃ x, bs.getD 3 0 = x := ⟨_, rfl⟩
  rw [e0] at c0 x0 hN
  rw [e1] at c1 x1 hN
  rw [e2] at c2 x2 hN
  rw [e3] at c3 x3 hN
  rw [Nat.add_zero] at c0
  have HN := Lib.hid hN
  clear hI h256 hc hlen e0 e1 e2 e3 hN
  go_enter Tryz.func120, Tryz.ntmps120
  go_wp2
  go_quiet (fail)
  go_wp2
  go_ret
  exact ⟨by rw [← HN.out]; simp only [Int.natCast_add, Int.natCast_mul]; rfl, below_drewN (Below.refl _ _) _⟩

theorem run_eql_nil {P : Program} (t e : TypeId) (a : Option Addr) (l c : Nat) (h : P.underlying t = some (.slice e)) (w : World) : (binOp .eql t (.slice a l c) (.slice none 0 0)).run P w = .ok (.bool a.isNone) w := by
  simp only [binOp]
  simp [run_equal_slice_nil w t e a l c h]

set_option maxRecDepth 100000 in
set_option maxHeartbeats 1000000 in
/-- A copy of bytes. -/
theorem clone_calls (sv : Value) (bs : List Nat) (hreach : bs.length ≤ 140737488351232) (w : World) (hI : Bytes w.heap.size w sv bs) :
    Calls Tryz.prog 72 #[sv] w (Owned w.heap.size w bs) := by
  obtain ⟨i0, hi, hz0, hz1, hz2⟩ := info_parts info_u8'
  have hB1 : ∀ o, Below w.heap.size w (w.alloc o) := fun o => (Below.refl _ w).alloc (Nat.le_refl _) o
  obtain ⟨A, cap, rfl⟩ := hI.form
  cases A with
  | none =>
    obtain ⟨A', cap', e, h1, h2, h3, h4⟩ := hI
    simp only [Value.slice.injEq] at e
    obtain ⟨rfl, _, rfl⟩ := e
    obtain rfl := h2 rfl
    obtain rfl : bs = [] := List.length_eq_zero_iff.1 (by omega)
    have he := run_eql_nil (P := Tryz.prog) 29 5 none 0 0 Tryz.underlying29 w
    clear h3 h4 hreach h2
    go_enter Tryz.func72, Tryz.ntmps72
    go_wp2
    go_ret
    exact ⟨_, rfl, ⟨by simpa [vals] using World.ownsRow_nil w w.heap.size 5 1, by simp⟩, Below.refl _ _⟩
  | some a =>
    have he := run_eql_nil (P := Tryz.prog) 29 5 (some a) bs.length cap Tryz.underlying29 w
    have HI := Lib.hid hI
    obtain ⟨len, hlen⟩ : ∃ len, bs.length = len := ⟨_, rfl⟩
    rw [hlen] at HI he ⊢
    have HL := Lib.hid hlen
    have hO2 : OwnB (w.alloc (.cells #[] 5)) w.heap.size 5 (.slice (some ⟨w.heap.size, 0, none⟩) 0 0) [] := ⟨World.ownsRow_made w #[] 0 (Nat.le_refl _) (by simp [maxLen]) rfl, by simp⟩
    have hI2 := HI.out.below (hB1 (.cells #[] 5))
    have hlen2 : ([] : List Nat).length + bs.length ≤ 140737488355328 := by rw [List.length_nil]; omega
    have HI2 := Lib.hid hI2
    have HN2 := Lib.hid hlen2
    have HO2 := Lib.hid hO2
    clear hlen hI hO2 hI2 hlen2
    go_enter Tryz.func72, Tryz.ntmps72
    go_wp2_with (at_builtin; refine wpList_append_bytes rfl _ _ _ rfl Tryz.underlying29 hi hz0 hz1 hz2 rfl rfl rfl HO2.out HI2.out HN2.out (by simp) ?next)
    case next =>
      intro v' w' O' G'
      go_wp2
      go_ret
      exact ⟨v', rfl, O', below_append (hB1 _) G' HO2.out (Nat.le_refl _) (by simp)⟩

set_option maxRecDepth 100000 in
set_option maxHeartbeats 2000000 in
/-- A number's four bytes, by the document's own answer. -/
theorem four_calls (n : Nat) (hn : n < 4294967296) (w : World) :
    Calls Tryz.prog 115 #[.int .u32 (n : Nat)] w (Owned w.heap.size w (le4 n)) := by
  obtain ⟨i0, hi, hz0, hz1, hz2⟩ := info_parts info_u8'
  have hpow : ∀ k, k < 4 → (le4 n).take (k + 1) = (le4 n).take k ++ [n / 256 ^ k % 256] := by
    intro k hk
    match k, hk with
    | 0, _ => simp [le4]
    | 1, _ => simp [le4]
    | 2, _ => simp [le4]
    | 3, _ => simp [le4]
  go_enter Tryz.func115, Tryz.ntmps115
  go_wp2
  go_loopw [0, 3, 4] (fun m v i wr => ∃ k : Nat, k ≤ 4 ∧ i = .int .i64 k ∧ m = .int .u32 (n / 256 ^ k : Nat) ∧ OwnB wr w.heap.size 5 v ((le4 n).take k) ∧ Below w.heap.size w wr) (fun _ _ i _ => 4 - (intOf i).toNat)
  case atStart => exact ⟨0, by omega, rfl, by simp, ⟨by simpa [vals] using World.ownsRow_nil w w.heap.size 5 1, by simp⟩, Below.refl _ _⟩
  case round =>
    obtain ⟨k, hk, rfl, rfl, hO, hB⟩ := hrel
    by_cases hlt : k < 4
    · have hs := hpow k hlt
      have hdiv : n / 256 ^ (k + 1) = n / 256 ^ k / 256 := by rw [Nat.pow_succ, Nat.div_div_eq_div_mul]
      have hle : n / 256 ^ k ≤ n := Nat.div_le_self _ _
      obtain ⟨m, hm⟩ : ∃ m, n / 256 ^ k = m := ⟨_, rfl⟩
      rw [hm] at hs hdiv hle
      rw [hm]
      have hB2 : ∀ o, Below w.heap.size w (wr.alloc o) := fun o => hB.alloc hB.size o
      have hl4 : ((le4 n).take k).length ≤ 4 := by rw [List.length_take]; omega
      have HS := Lib.hid hs
      have HD := Lib.hid hdiv
      have HP := Lib.hid hpow
      clear hs hdiv hpow hm
      go_wp2_with (at_builtin; refine wpList_append_bytes rfl _ _ _ rfl Tryz.underlying29 hi hz0 hz1 hz2 rfl rfl rfl (hO.alloc _) (Bytes.lit wr _ _ [m % 256] 1 (by rfl) (by decide) (by simp [vals]) (by simp; omega)) (by simp; omega) (by have := hB.size; simp; omega) ?next)
      case next =>
        intro v' w' O' G'
        go_wp2
        go_roundw
        case rel => exact ⟨k + 1, by omega, by go_num, by rw [HD.out]; simp, by rw [HS.out]; exact O', below_append (hB2 _) G' (hO.alloc _) (Nat.le_refl _) (by have := hB.size; simp; omega)⟩
        case measure => simp [intOf]; omega
    · obtain rfl : k = 4 := by omega
      clear hpow
      go_wp2
      go_ret
      exact ⟨_, rfl, hO, hB⟩

end Go.Proofs.YtdikmlnpclklnaaGreatDoor.Frame

/-
  Contracts of Put, the project's and the document's own: a payload's frame, in new memory; a payload that is too long is refused.
-/
namespace Go.Proofs.YtdikmlnpclklnaaGreatDoor.Frame
open Go.RowKit Go.Shelf Go.Proofs.YtdikmlnpclklnaaGreatDoor.Law Go.Proofs.YtdikmlnpclklnaaGreatDoor.Crc

/-- Bytes of the call's own and a second result. -/
def Owned2 (base : Nat) (w : World) (bs : List Nat) (n : Nat) (e : Ending) (W : World) : Prop := ∃ v, e = .returned (.tuple #[v, .int .i64 (n : Nat)]) ∧ OwnB W base 5 v bs ∧ Below base w W

theorem ownB_nil (W : World) (base : Nat) (e : TypeId) : OwnB W base e (.slice none 0 0) [] := ⟨by simpa [vals] using World.ownsRow_nil W base e 1, by simp⟩
theorem ownB_made (W : World) (e : TypeId) : OwnB (W.alloc (.cells #[] e)) W.heap.size e (.slice (some ⟨W.heap.size, 0, none⟩) 0 0) [] := ⟨World.ownsRow_made W #[] 0 (Nat.le_refl _) (by simp [maxLen]) rfl, by simp⟩

theorem _root_.Go.Proofs.YtdikmlnpclklnaaGreatDoor.Law.OwnB.lower {W : World} {base b' : Nat} {e : TypeId} {v : Value} {bs : List Nat} (h : OwnB W base e v bs) (hb : b' ≤ base) : OwnB W b' e v bs := by
  refine ⟨⟨h.1.1, ?_⟩, h.2⟩
  rcases h.1.2 with h0 | ⟨g, cap, cur, rfl, h1, h2⟩
  · exact .inl h0
  · exact .inr ⟨g, cap, cur, rfl, by omega, h2⟩

/-- The frame of a payload that is short enough; none of one that is too long. -/
def putN (p : List Nat) : List Nat × Nat := if p.length ≤ 65536 then (frameN p, 0) else ([], 2)

set_option maxRecDepth 100000 in
set_option maxHeartbeats 2000000 in
theorem put_calls (sv : Value) (bs : List Nat) (w : World) (hT : Tab w) (hI : Bytes w.heap.size w sv bs) :
    Calls Tryz.prog 50 #[sv] w (Owned2 w.heap.size w (putN bs).1 (putN bs).2) := by
  obtain ⟨i0, hi, hz0, hz1, hz2⟩ := info_parts info_u8'
  obtain ⟨A, cap, rfl⟩ := hI.form
  by_cases hlong : bs.length ≤ 65536
  · have hp : putN bs = (frameN bs, 0) := by unfold putN; rw [if_pos hlong]
    rw [hp]
    have hs1 : extN 0 (le4 bs.length) < 4294967296 := extN_lt 0 _ (by decide)
    have hs2 : extN 0 bs < 4294967296 := extN_lt 0 _ (by decide)
    have hf : frameN bs = ((([] ++ le4 bs.length) ++ le4 (extN 0 (le4 bs.length))) ++ bs) ++ le4 (extN 0 bs) := by simp [frameN, List.append_assoc]
    obtain ⟨F, hF⟩ : ∃ F, frameN bs = F := ⟨_, rfl⟩
    rw [hF] at hf ⊢
    obtain ⟨s1, e1⟩ : ∃ s, extN 0 (le4 bs.length) = s := ⟨_, rfl⟩
    obtain ⟨s2, e2⟩ : ∃ s, extN 0 bs = s := ⟨_, rfl⟩
    rw [e1] at hs1 hf
    rw [e2] at hs2 hf
    obtain ⟨len, hlen⟩ : ∃ len, bs.length = len := ⟨_, rfl⟩
    rw [hlen] at hI hlong hf e1 ⊢
    have HI := Lib.hid hI
    have HT := Lib.hid hT
    have HF := Lib.hid hf
    have E1 := Lib.hid e1
    have E2 := Lib.hid e2
    have HL := Lib.hid hlen
    clear hp hF hf e1 e2 hlen hI hT
    have hlongI : (len : Int) ≤ 65536 := by omega
    go_enter Tryz.func50, Tryz.ntmps50
    go_wp2_with fail
    refine (frameLen_calls len (by omega) w).mono ?_
    rintro e w' ⟨rfl, rfl⟩
    go_wp2_with (at_make; refine wpList_make_own _ rfl _ _ _ rfl w.heap.size 5 i0 (.int .u8 0) 1 Tryz.underlying29 hi hz0 hz1 _ _ _ (len + 12) rfl rfl (by simp) (by rw [hz2]; omega) (by simp only [maxLen]; omega) (Nat.le_refl _) ?_; intro w1 hO1 hg1; have hB1 : Below w.heap.size w w1 := (Below.refl _ w).grown hg1 (Nat.le_refl _) (by simp); clear hg1)
    refine (appendNum_calls _ [] (by simp) len (by omega) w.heap.size w1 ⟨hO1, by simp⟩ hB1.size).mono ?_
    rintro e w2 ⟨v2, rfl, O2, B2⟩
    have hB2 := hB1.trans B2
    clear hO1 hB1 B2
    go_wp2_with fail
    refine (sum_calls v2 ([] ++ le4 len) (by simp [le4_length]) w2 (HT.out.below hB2) O2.bytes).mono ?_
    rintro e w3 ⟨rfl, B3⟩
    have hB3 := hB2.trans (B3.mono hB2.size)
    have O3 := O2.below B3
    rw [List.nil_append, E1.out]
    clear O2 B3 hB2
    go_wp2_with fail
    refine (appendNum_calls v2 _ (by simp [le4_length]) s1 hs1 w.heap.size w3 O3 hB3.size).mono ?_
    rintro e w4 ⟨v4, rfl, O4, B4⟩
    have hB4 := hB3.trans B4
    clear O3 hB3 B4
    have hroom : (([] ++ le4 len) ++ le4 s1).length + bs.length ≤ 140737488355328 := by rw [HL.out]; simp [le4_length]; omega
    have hI4 := HI.out.on hB4
    have HR := Lib.hid hroom
    have HI4 := Lib.hid hI4
    have HO4 := Lib.hid O4
    have hb4 := hB4.size
    clear hroom hI4 O4
    go_wp2_with (at_builtin; refine wpList_append_bytes rfl _ _ _ rfl Tryz.underlying29 hi hz0 hz1 hz2 rfl rfl rfl HO4.out HI4.out HR.out hb4 ?next)
    case next =>
      intro v5 w5 O5 G5
      have hB5 := below_append hB4 G5 HO4.out (Nat.le_refl _) hb4
      clear HO4 hB4 HI4 G5
      go_wp2_with fail
      refine (sum_calls _ bs (by rw [HL.out]; omega) w5 (HT.out.below hB5) (HI.out.on hB5)).mono ?_
      rintro e w6 ⟨rfl, B6⟩
      have hB6 := hB5.trans (B6.mono hB5.size)
      have O6 := O5.below B6
      rw [E2.out]
      clear O5 B6 hB5
      go_wp2_with fail
      refine (appendNum_calls v5 _ (by simp [le4_length]; rw [HL.out]; omega) s2 hs2 w.heap.size w6 O6 hB6.size).mono ?_
      rintro e w7 ⟨v7, rfl, O7, B7⟩
      have O8 : OwnB w7 w.heap.size 5 v7 F := by rw [HF.out]; simpa [List.append_assoc] using O7
      clear O7
      go_wp2
      go_ret2
      exact ⟨v7, rfl, O8, hB6.trans B7⟩
  · have hp : putN bs = ([], 2) := by unfold putN; rw [if_neg hlong]
    rw [hp]
    obtain ⟨len, hlen⟩ : ∃ len, bs.length = len := ⟨_, rfl⟩
    rw [hlen] at hlong ⊢
    have hlongI : 65536 < (len : Int) := by omega
    clear hp hlen hI hT hlong
    go_enter Tryz.func50, Tryz.ntmps50
    go_wp2
    go_ret2
    exact ⟨_, rfl, ownB_nil _ _ _, Below.refl _ _⟩

set_option maxRecDepth 100000 in
set_option maxHeartbeats 2000000 in
theorem refput_calls (sv : Value) (bs : List Nat) (hreach : bs.length ≤ 140737488351232) (w : World) (hI : Bytes w.heap.size w sv bs) :
    Calls Tryz.prog 93 #[sv] w (Owned2 w.heap.size w (putN bs).1 (putN bs).2) := by
  obtain ⟨i0, hi, hz0, hz1, hz2⟩ := info_parts info_u8'
  obtain ⟨A, cap, rfl⟩ := hI.form
  by_cases hlong : bs.length ≤ 65536
  · have hp : putN bs = (frameN bs, 0) := by unfold putN; rw [if_pos hlong]
    rw [hp]
    have hs1 : extN 0 (le4 bs.length) < 4294967296 := extN_lt 0 _ (by decide)
    have hs2 : extN 0 bs < 4294967296 := extN_lt 0 _ (by decide)
    have hf : frameN bs = ((([] ++ le4 bs.length) ++ le4 (extN 0 (le4 bs.length))) ++ bs) ++ le4 (extN 0 bs) := by simp [frameN, List.append_assoc]
    obtain ⟨F, hF⟩ : ∃ F, frameN bs = F := ⟨_, rfl⟩
    rw [hF] at hf ⊢
    obtain ⟨s1, e1⟩ : ∃ s, extN 0 (le4 bs.length) = s := ⟨_, rfl⟩
    obtain ⟨s2, e2⟩ : ∃ s, extN 0 bs = s := ⟨_, rfl⟩
    rw [e1] at hs1 hf
    rw [e2] at hs2 hf
    obtain ⟨len, hlen⟩ : ∃ len, bs.length = len := ⟨_, rfl⟩
    rw [hlen] at hI hlong hf e1 ⊢
    have HI := Lib.hid hI
    have HF := Lib.hid hf
    have E1 := Lib.hid e1
    have E2 := Lib.hid e2
    have HL := Lib.hid hlen
    clear hp hF hf e1 e2 hlen hI
    have hlongI : (len : Int) ≤ 65536 := by omega
    go_enter Tryz.func93, Tryz.ntmps93
    go_wp2_with fail
    refine (four_calls len (by omega) w).mono ?_
    rintro e w1 ⟨v1, rfl, O1, hB1⟩
    have hB2 := hB1.alloc hB1.size (.cells #[] 5)
    have O2 : OwnB (w1.alloc (.cells #[] 5)) w1.heap.size 5 (.slice (some ⟨w1.heap.size, 0, none⟩) 0 0) [] := ownB_made w1 5
    have I2 := (O1.alloc (.cells #[] 5)).bytes
    have HO2 := Lib.hid O2
    have HI2 := Lib.hid I2
    have HO1 := Lib.hid O1
    clear O2 I2 O1
    go_wp2_with (at_builtin; refine wpList_append_bytes rfl _ _ _ rfl Tryz.underlying29 hi hz0 hz1 hz2 rfl rfl rfl HO2.out HI2.out (by simp [le4_length]) (by simp) ?next)
    case next =>
      intro v3 w3 O3 G3
      have hB3 : Below w.heap.size w w3 := hB1.trans ((below_append ((Below.refl w1.heap.size w1).alloc (Nat.le_refl _) _) G3 HO2.out (Nat.le_refl _) (by simp)).mono hB1.size)
      have hB13 : Below w1.heap.size w1 w3 := below_append ((Below.refl w1.heap.size w1).alloc (Nat.le_refl _) _) G3 HO2.out (Nat.le_refl _) (by simp)
      have O1' := HO1.out.below hB13
      have hk := O3.1.1
      clear G3 hB2 HO2 HI2 hk
      go_wp2_with fail
      refine (refext_calls 0 (by decide) v1 (le4 len) (by simp [le4_length]) w3 O1'.bytes).mono ?_
      rintro e w3' ⟨rfl, rfl⟩
      rw [E1.out]
      go_wp2_with fail
      refine (four_calls s1 hs1 w3').mono ?_
      rintro e w4 ⟨v4, rfl, O4, B4⟩
      have hB4 := hB3.trans (B4.mono hB3.size)
      have O34 := O3.below B4
      have hB14 := hB13.trans (B4.mono hB13.size)
      have hb14 := hB14.size
      have HO34 := Lib.hid O34
      have HI4 := Lib.hid O4.bytes
      clear O3 O4 hB3 hB13 O1' B4 O34 HO1
      go_wp2_with (at_builtin; refine wpList_append_bytes rfl _ _ _ rfl Tryz.underlying29 hi hz0 hz1 hz2 rfl rfl rfl HO34.out HI4.out (by simp [le4_length]) hb14 ?next)
      case next =>
        intro v5 w5 O5 G5
        have hB15 : Below w1.heap.size w1 w5 := below_append hB14 G5 HO34.out (Nat.le_refl _) hb14
        have hB5 : Below w.heap.size w w5 := hB1.trans (hB15.mono hB1.size)
        have hroom : (([] ++ le4 len) ++ le4 s1).length + bs.length ≤ 140737488355328 := by rw [HL.out]; simp [le4_length]; omega
        have hI5 := HI.out.on hB5
        have HR := Lib.hid hroom
        have HI5 := Lib.hid hI5
        have HO5 := Lib.hid O5
        have hb15 := hB15.size
        clear hroom hI5 O5 HO34 HI4 hb14 hB14 hB4 G5
        go_wp2_with (at_builtin; refine wpList_append_bytes rfl _ _ _ rfl Tryz.underlying29 hi hz0 hz1 hz2 rfl rfl rfl HO5.out HI5.out HR.out hb15 ?next)
        case next =>
          intro v6 w6 O6 G6
          have hB16 := below_append hB15 G6 HO5.out (Nat.le_refl _) hb15
          have hB6 : Below w.heap.size w w6 := hB1.trans (hB16.mono hB1.size)
          clear HO5 HI5 HR hB15 hB5 G6 hb15
          go_wp2_with fail
          refine (refext_calls 0 (by decide) _ bs (by rw [HL.out]; omega) w6 (HI.out.on hB6)).mono ?_
          rintro e w6' ⟨rfl, rfl⟩
          rw [E2.out]
          go_wp2_with fail
          refine (four_calls s2 hs2 w6').mono ?_
          rintro e w7 ⟨v7, rfl, O7, B7⟩
          have hB17 := hB16.trans (B7.mono hB16.size)
          have hb17 := hB17.size
          have O67 := O6.below B7
          have hroom : ((([] ++ le4 len) ++ le4 s1) ++ bs).length + (le4 s2).length ≤ 140737488355328 := by
            rw [List.length_append, HL.out]; simp [le4_length]; omega
          have HR := Lib.hid hroom
          have HO67 := Lib.hid O67
          have HI7 := Lib.hid O7.bytes
          clear O6 O7 O67 hB16 hB6 B7 hroom
          go_wp2_with (at_builtin; refine wpList_append_bytes rfl _ _ _ rfl Tryz.underlying29 hi hz0 hz1 hz2 rfl rfl rfl HO67.out HI7.out HR.out hb17 ?next)
          case next =>
            intro v8 w8 O8 G8
            have hB18 := below_append hB17 G8 HO67.out (Nat.le_refl _) hb17
            have O9 : OwnB w8 w1.heap.size 5 v8 F := by rw [HF.out]; simpa [List.append_assoc] using O8
            have O10 : OwnB w8 w.heap.size 5 v8 F := O9.lower hB1.size
            clear O8 O9 G8 HO67 HI7 HR
            go_wp2
            go_ret2
            exact ⟨v8, rfl, O10, hB1.trans (hB18.mono hB1.size)⟩
  · have hp : putN bs = ([], 2) := by unfold putN; rw [if_neg hlong]
    rw [hp]
    obtain ⟨len, hlen⟩ : ∃ len, bs.length = len := ⟨_, rfl⟩
    rw [hlen] at hlong hreach ⊢
    have hlongI : 65536 < (len : Int) := by omega
    clear hp hlen hI hlong
    go_enter Tryz.func93, Tryz.ntmps93
    go_wp2
    go_ret2
    exact ⟨_, rfl, ownB_nil _ _ _, Below.refl _ _⟩

end Go.Proofs.YtdikmlnpclklnaaGreatDoor.Frame

/-
  Contracts of Next, the project's and the document's own: the payload of the frame at a place, in new memory, the place behind it, or the error.
-/
namespace Go.Proofs.YtdikmlnpclklnaaGreatDoor.Frame
open Go.RowKit Go.Shelf Go.Proofs.YtdikmlnpclklnaaGreatDoor.Law Go.Proofs.YtdikmlnpclklnaaGreatDoor.Crc

theorem Bytes.piece {n b off len cap : Nat} {W : World} {bs : List Nat} (h : Bytes n W (.slice (some ⟨b, off, none⟩) len cap) bs) (lo l cap' : Nat) (hl : lo + l ≤ len) (hc : l ≤ cap') :
    Bytes n W (.slice (some ⟨b, off + lo, none⟩) l cap') ((bs.drop lo).take l) := by
  obtain ⟨A', c', e, h1, h2, h3, h4⟩ := h
  simp only [Value.slice.injEq] at e
  obtain ⟨rfl, rfl, rfl⟩ := e
  have hlen : ((bs.drop lo).take l).length = l := by rw [List.length_take, List.length_drop]; omega
  refine ⟨_, cap', by rw [hlen], by rw [hlen]; exact hc, (fun h => by cases h), fun x hx => h3 x (List.mem_of_mem_drop (List.mem_of_mem_take hx)), fun hp => ?_⟩
  rw [hlen] at hp
  obtain ⟨b', off', e', hb, hcell⟩ := h4 (by omega)
  simp only [Option.some.injEq, Addr.mk.injEq, and_true] at e'
  obtain ⟨rfl, rfl⟩ := e'
  refine ⟨b, off + lo, rfl, hb, fun j hj => ?_⟩
  rw [hlen] at hj
  rw [Nat.add_assoc, hcell _ (by omega), getD_piece, if_pos hj]

/-- Contracts from a world on in which nothing below has turned. -/
theorem num_from (w : World) {sv : Value} {bs : List Nat} (h4 : 4 ≤ bs.length) (hreach : bs.length ≤ 140737488351232) (hI : Bytes w.heap.size w sv bs) (W : World) (hB : Below w.heap.size w W) :
    Calls Tryz.prog 127 #[sv] W fun e W' => e = .returned (.int .u32 (num4 bs : Nat)) ∧ Below w.heap.size w W' :=
  (num_calls sv bs h4 hreach W (hI.on hB)).mono fun _ _ ⟨he, hb⟩ => ⟨he, hB.trans (hb.mono hB.size)⟩
theorem sum_from' (w : World) (hT : Tab w) {sv : Value} {bs : List Nat} (hreach : bs.length ≤ 140737488351232) (hI : Bytes w.heap.size w sv bs) (W : World) (hB : Below w.heap.size w W) :
    Calls Tryz.prog 84 #[sv] W fun e W' => e = .returned (.int .u32 (extN 0 bs : Nat)) ∧ Below w.heap.size w W' :=
  (sum_calls sv bs hreach W (hT.below hB) (hI.on hB)).mono fun _ _ ⟨he, hb⟩ => ⟨he, hB.trans (hb.mono hB.size)⟩

/-- What is read ahead of a payload: its length, or the error. -/
def headN (r : List Nat) : Nat × Nat :=
  if r.length < 8 then (0, 5) else if num4 (r.drop 4) ≠ extN 0 (r.take 4) then (0, 4) else if 65536 < num4 r then (0, 2) else (num4 r, 0)

theorem readN_head_err {r : List Nat} (at0 : Nat) (h : (headN r).2 ≠ 0) : readN r at0 = ([], 0, (headN r).2) := by
  unfold headN at h ⊢
  unfold readN
  split
  · rfl
  · split
    · rfl
    · split
      · rfl
      · rename_i h1 h2 h3
        rw [if_neg h1, if_neg h2, if_neg h3] at h
        exact absurd rfl h
theorem headN_ok {r : List Nat} (h : (headN r).2 = 0) : headN r = (num4 r, 0) ∧ 8 ≤ r.length ∧ num4 (r.drop 4) = extN 0 (r.take 4) ∧ num4 r ≤ 65536 := by
  unfold headN at h ⊢
  by_cases h1 : r.length < 8
  · rw [if_pos h1] at h; cases h
  · by_cases h2 : num4 (r.drop 4) = extN 0 (r.take 4)
    · by_cases h3 : 65536 < num4 r
      · rw [if_neg h1, if_neg (by simpa using h2), if_pos h3] at h; cases h
      · rw [if_neg h1, if_neg (by simpa using h2), if_neg h3]
        exact ⟨rfl, by omega, h2, by omega⟩
    · rw [if_neg h1, if_pos h2] at h; cases h

def Two (w : World) (n m : Nat) (e : Ending) (W : World) : Prop := e = .returned (.tuple #[.int .i64 (n : Nat), .int .i64 (m : Nat)]) ∧ Below w.heap.size w W

set_option maxRecDepth 100000 in
set_option maxHeartbeats 4000000 in
theorem payloadLen_calls (sv : Value) (bs : List Nat) (hreach : bs.length ≤ 140737488351232) (w : World) (hT : Tab w) (hI : Bytes w.heap.size w sv bs) :
    Calls Tryz.prog 126 #[sv] w (Two w (headN bs).1 (headN bs).2) := by
  obtain ⟨A, cap, rfl⟩ := hI.form
  by_cases h8 : bs.length < 8
  · have hh : headN bs = (0, 5) := by unfold headN; rw [if_pos h8]
    rw [hh]
    obtain ⟨len, hlen⟩ : ∃ len, bs.length = len := ⟨_, rfl⟩
    rw [hlen] at h8 ⊢
    have h8I : (len : Int) < 8 := by omega
    clear hh hI hlen hreach hT h8
    go_enter Tryz.func126, Tryz.ntmps126
    go_wp2
    go_ret2
    exact ⟨rfl, Below.refl _ _⟩
  · obtain ⟨b, off, rfl, hb, -⟩ := hI.cells (by omega)
    have hcap := hI.capOk
    have p1 := Bytes.piece hI 4 (bs.length - 4) (cap - 4) (by omega) (by omega)
    have p2 := Bytes.piece hI 0 4 cap (by omega) (by omega)
    rw [List.take_of_length_le (by rw [List.length_drop]; omega)] at p1
    rw [List.drop_zero, Nat.add_zero] at p2
    have l1 : (bs.drop 4).length = bs.length - 4 := List.length_drop
    have l2 : (bs.take 4).length = 4 := by rw [List.length_take]; omega
    have c1 := num_from w (by omega) (by omega) p1
    have c2 := sum_from' w hT (by omega) p2
    have c3 := num_from w (by omega) hreach hI
    have n3 := num4_lt hI.lt
    have hh : headN bs = if num4 (bs.drop 4) ≠ extN 0 (bs.take 4) then (0, 4) else if 65536 < num4 bs then (0, 2) else (num4 bs, 0) := by unfold headN; rw [if_neg h8]
    obtain ⟨N2, e1⟩ : ∃ N, num4 (bs.drop 4) = N := ⟨_, rfl⟩
    obtain ⟨S1, e2⟩ : ∃ N, extN 0 (bs.take 4) = N := ⟨_, rfl⟩
    obtain ⟨N, e3⟩ : ∃ N, num4 bs = N := ⟨_, rfl⟩
    rw [e1] at c1 hh
    rw [e2] at c2 hh
    rw [e3] at c3 hh n3
    obtain ⟨len, hlen⟩ : ∃ len, bs.length = len := ⟨_, rfl⟩
    rw [hlen] at h8 hcap hreach c1 c3 ⊢
    have C1 := Lib.hid c1
    have C2 := Lib.hid c2
    have C3 := Lib.hid c3
    have hx0 : ¬ cap = 0 := by omega
    have hx4 : ¬ cap = 4 := by omega
    have hcapI : (len : Int) ≤ (cap : Int) := by omega
    have h8I : 8 ≤ (len : Int) := by omega
    have h4I : 4 ≤ (len : Int) := by omega
    have h8J : 8 ≤ (cap : Int) := by omega
    have h4J : 4 ≤ (cap : Int) := by omega
    clear hT hI p1 p2 l1 l2 c1 c2 c3 e1 e2 e3 hlen
    by_cases hne : N2 = S1
    · subst hne
      rw [if_neg (by simp)] at hh
      by_cases hbig : 65536 < N
      · rw [if_pos hbig] at hh
        rw [hh]
        have hbI : 65536 < (N : Int) := by omega
        clear hh hbig
        go_enter Tryz.func126, Tryz.ntmps126
        go_wp2
        go_region_with ((first | (go_at_call 127; ((with_reducible refine (C1.out _ ?_).mono ?_); (first | assumption | exact (Below.refl _ _).drew | exact Below.drew (by assumption)))) | (go_at_call 84; ((with_reducible refine (C2.out _ ?_).mono ?_); (first | assumption | exact (Below.refl _ _).drew | exact Below.drew (by assumption))))); rintro e w' ⟨rfl, hB'⟩)
        all_goals
          go_wp2_with fail
          refine (C3.out _ (by assumption)).mono ?_
          rintro e w3 ⟨rfl, hB3⟩
          go_wp2
          go_ret2
          exact ⟨rfl, hB3⟩
      · rw [if_neg hbig] at hh
        rw [hh]
        have hbI : (N : Int) ≤ 65536 := by omega
        clear hh hbig
        go_enter Tryz.func126, Tryz.ntmps126
        go_wp2
        go_region_with ((first | (go_at_call 127; ((with_reducible refine (C1.out _ ?_).mono ?_); (first | assumption | exact (Below.refl _ _).drew | exact Below.drew (by assumption)))) | (go_at_call 84; ((with_reducible refine (C2.out _ ?_).mono ?_); (first | assumption | exact (Below.refl _ _).drew | exact Below.drew (by assumption))))); rintro e w' ⟨rfl, hB'⟩)
        all_goals
          go_wp2_with fail
          refine (C3.out _ (by assumption)).mono ?_
          rintro e w3 ⟨rfl, hB3⟩
          go_wp2
          go_ret2
          exact ⟨rfl, hB3⟩
    · rw [if_pos hne] at hh
      rw [hh]
      have ht1 : ((N2 : Int) == (S1 : Int)) = false := by rw [beq_eq_false_iff_ne]; omega
      have ht2 : ((N2 : Int) != (S1 : Int)) = true := by rw [bne_iff_ne]; omega
      clear hh hne
      go_enter Tryz.func126, Tryz.ntmps126
      go_wp2
      go_region_with ((first | (go_at_call 127; ((with_reducible refine (C1.out _ ?_).mono ?_); (first | assumption | exact (Below.refl _ _).drew | exact Below.drew (by assumption)))) | (go_at_call 84; ((with_reducible refine (C2.out _ ?_).mono ?_); (first | assumption | exact (Below.refl _ _).drew | exact Below.drew (by assumption))))); rintro e w' ⟨rfl, hB'⟩)
      all_goals
        go_wp2
        go_ret2
        exact ⟨rfl, by assumption⟩

end Go.Proofs.YtdikmlnpclklnaaGreatDoor.Frame
