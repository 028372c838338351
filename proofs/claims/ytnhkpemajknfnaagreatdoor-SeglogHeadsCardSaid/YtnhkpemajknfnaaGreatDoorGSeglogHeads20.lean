/-
  Put together out of texts of one chain: what they hold stands ahead of each.
-/
import Derived.Test.YtnhkpemajknfnaaGreatDoorGSeglogHeads03
import Derived.Lib.ItoaNum
/-
  A log as plain data: entries, segments, their files' names.
-/
namespace Go.Proofs.YtnhkpemajknfnaaGreatDoor.Seglog
open Go Go.RowKit Go.Lib Go.Proofs.YtnhkpemajknfnaaGreatDoor.Law Go.Proofs.YtnhkpemajknfnaaGreatDoor.Disk

/-- An entry: its bytes, and the place behind its frame. -/
structure En where
  bs : List Nat
  fin : Nat
/-- A segment. -/
structure Sg where
  base : Nat
  es : List En
def Sg.next (s : Sg) : Nat := s.base + s.es.length
def Sg.size (s : Sg) : Nat := (s.es.getLast?.map En.fin).getD 0
/-- A frame's length. -/
def frmLen (bs : List Nat) : Nat := 12 + bs.length
/-- An entry is put behind a segment's. -/
def Sg.put (s : Sg) (bs : List Nat) : Sg := ⟨s.base, s.es ++ [⟨bs, s.size + frmLen bs⟩]⟩
theorem Sg.put_size (s : Sg) (bs : List Nat) : (s.put bs).size = s.size + frmLen bs := by simp [Sg.put, Sg.size]
theorem Sg.put_next (s : Sg) (bs : List Nat) : (s.put bs).next = s.next + 1 := by simp [Sg.put, Sg.next]; omega

/-- A log's segments: the first and next offset. -/
def firstL (l : List Sg) : Nat := (l.head?.map Sg.base).getD 0
def nextL (l : List Sg) : Nat := (l.getLast?.map Sg.next).getD 0

/-- The number that digits tell. -/
def digVal (l : List UInt8) : Nat := l.foldl (fun a c => 10 * a + (c.toNat - 48)) 0
theorem digVal_append (l : List UInt8) (c : UInt8) : digVal (l ++ [c]) = 10 * digVal l + (c.toNat - 48) := by simp [digVal]
theorem toNat_digit (k : Nat) (h : k < 10) : (UInt8.ofNat (48 + k)).toNat = 48 + k := by simp; omega
theorem digVal_dec (u : Nat) : digVal (decDigits u) = u := by
  induction u using Nat.strongRecOn with
  | _ u ih =>
    unfold decDigits
    split
    · rename_i h
      simp only [digVal, List.foldl_cons, List.foldl_nil, toNat_digit u h]
      omega
    · rename_i h
      rw [digVal_append, ih (u / 10) (by omega), toNat_digit (u % 10) (by omega)]
      omega
theorem dec_inj {a b : Nat} (h : decDigits a = decDigits b) : a = b := by rw [← digVal_dec a, ← digVal_dec b, h]
theorem dec_digit (u : Nat) : ∀ c ∈ decDigits u, 48 ≤ c.toNat ∧ c.toNat ≤ 57 := by
  induction u using Nat.strongRecOn with
  | _ u ih =>
    unfold decDigits
    split
    · rename_i h
      intro c hc
      simp only [List.mem_singleton] at hc
      subst hc
      rw [toNat_digit u h]; omega
    · rename_i h
      intro c hc
      rcases List.mem_append.1 hc with hc | hc
      · exact ih (u / 10) (by omega) c hc
      · simp only [List.mem_singleton] at hc
        subst hc
        rw [toNat_digit (u % 10) (by omega)]; omega
theorem dec_length (u : Nat) : ∀ k, u < 10 ^ (k + 1) → (decDigits u).length ≤ k + 1 ∧ 1 ≤ (decDigits u).length := by
  induction u using Nat.strongRecOn with
  | _ u ih =>
    intro k hk
    unfold decDigits
    split
    · simp
    · rename_i h
      match k with
      | 0 => omega
      | k + 1 =>
        have := ih (u / 10) (by omega) k (by rw [Nat.pow_succ] at hk; omega)
        rw [List.length_append, List.length_singleton]
        omega

/-- A segment's file. -/
def fileN (p : ByteArray) (b : Nat) : ByteArray := ⟨p.data ++ (decDigits b).toArray⟩
theorem file_inj {p : ByteArray} {a b : Nat} (h : fileN p a = fileN p b) : a = b := by
  unfold fileN at h
  simp only [ByteArray.mk.injEq, Array.append_right_inj] at h
  refine dec_inj ?_
  simpa using h
theorem file_size (p : ByteArray) (b : Nat) : (fileN p b).size = p.size + (decDigits b).length := by
  unfold fileN
  show (p.data ++ _).size = _
  simp

theorem bytes_file (p : ByteArray) (b : Nat) : bytesS (fileN p b) = bytesS p ++ (decDigits b).map UInt8.toNat := by
  unfold bytesS fileN
  simp
/-- A log's files have right names. -/
theorem file_right {p : ByteArray} (hp : (bytesS p).all okByte = true) (h1 : 1 ≤ p.size) (h2 : p.size ≤ 13) {b : Nat} (hb : b < 10 ^ 19) : rightB (fileN p b) = true := by
  obtain ⟨h3, h4⟩ := dec_length b 18 hb
  unfold rightB
  rw [file_size, bytes_file, List.all_append, hp, Bool.and_eq_true, decide_eq_true_eq, Bool.true_and]
  refine ⟨by omega, List.all_eq_true.2 fun x hx => ?_⟩
  obtain ⟨c, hc, rfl⟩ := List.mem_map.1 hx
  have := dec_digit b c hc
  unfold okByte
  simp
  omega

/-- Segments that go on from one another, each with its entries' places. -/
def goesOn : List Sg → Prop
  | [] => True
  | [_] => True
  | s :: t :: r => t.base = s.next ∧ s.es ≠ [] ∧ goesOn (t :: r)
theorem goesOn_tail {s : Sg} {l : List Sg} (h : goesOn (s :: l)) : goesOn l := by
  cases l with
  | nil => trivial
  | cons t r => exact h.2.2

end Go.Proofs.YtnhkpemajknfnaaGreatDoor.Seglog
