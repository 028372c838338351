/-
  Put together out of texts of one chain: what they hold stands ahead of each.
-/
import Derived.RangeFuncNested
import Derived.RangeFuncBound
import Derived.RangeFuncCalls
import Derived.RangeFuncLeaves
import Derived.RangeFuncBox
import Derived.RangeFuncFrom
import Derived.Shelf.Abstract
import Derived.Shelf.RegionOpen
import Derived.WalkKit
import Derived.OwnWalkIn
import Derived.TacticsInMore
import Derived.LoopNIn
import Derived.LoopIn
import Derived.Laws.BitsAllLaws
import Derived.Lib.Hide
import Derived.Lib.SlBytesConst
import Derived.Lib.SmallJoins
import Derived.Test.YtnhkpemajknfnaaGreatDoorGSeglogHeads14
import Derived.Test.YtnhkpemajknfnaaGreatDoorSame
import Derived.Deep.QuietTactic
import Derived.BigQuiet
import Derived.IntWalk
import Derived.WalkSmall
import Derived.Laws.Cover3
/-
  The document's own sum, bit by bit, is the plain function of CrcMath.
-/
namespace Go.Proofs.YtnhkpemajknfnaaGreatDoor.Crc
open Go.RowKit Go.Shelf Go.Proofs.YtnhkpemajknfnaaGreatDoor.Law

attribute [local go_sem] Oper.semAt_some

end Go.Proofs.YtnhkpemajknfnaaGreatDoor.Crc

/-
  Plain facts: bytes whose bits are turned within a window of 32 have another register, unless none is turned.
-/
namespace Go.Proofs.YtnhkpemajknfnaaGreatDoor.Crc

theorem stepsB_snoc : ∀ (j : Nat) (y : BitVec 32), stepsB (j + 1) y = stepB (stepsB j y) := by
  intro j
  induction j with
  | zero => intro y; rfl
  | succ j ih => intro y; simp only [stepsB] at ih ⊢; exact ih (stepB y)

theorem mod_pow_succ (x j : Nat) : x % 2 ^ (j + 1) = (x % 2 ^ j) ^^^ (2 ^ j * (x / 2 ^ j % 2)) := by
  have hb : x / 2 ^ j % 2 < 2 := Nat.mod_lt _ (by decide)
  apply Nat.eq_of_testBit_eq
  intro i
  rw [Nat.testBit_xor, Nat.testBit_mod_two_pow, Nat.testBit_mod_two_pow, Nat.testBit_two_pow_mul]
  by_cases h1 : i < j
  · simp [h1, show i < j + 1 by omega, show ¬ j ≤ i by omega]
  · by_cases h2 : i = j
    · subst h2
      simp [Nat.testBit_eq_decide_div_mod_eq]
    · have h3 : ¬ i < j + 1 := by omega
      have h4 : (x / 2 ^ j % 2).testBit (i - j) = false := by
        apply Nat.testBit_lt_two_pow
        calc x / 2 ^ j % 2 < 2 ^ 1 := hb
          _ ≤ 2 ^ (i - j) := Nat.pow_le_pow_right (by decide) (by omega)
      simp [h1, h3, h4]

theorem bit_back32 : ∀ j, j < 32 → stepsB j (BitVec.ofNat 32 (2 ^ j)) = 1#32 := by decide

/-- A bit of a row of bytes. -/
def bitAt (l : List Nat) (p : Nat) : Bool := (l.getD (p / 8) 0).testBit (p % 8)
def bit1 (b : Bool) : BitVec 32 := if b then 1#32 else 0#32

/-- The register behind p bits of the row. -/
def regAt (r : BitVec 32) (l : List Nat) : Nat → BitVec 32
  | 0 => r
  | p + 1 => stepB (regAt r l p ^^^ bit1 (bitAt l p))

theorem regAt_refRun (r : Nat) (hr : r < 4294967296) (r0 : BitVec 32) (l : List Nat) (k : Nat) (h : BitVec.ofNat 32 r = regAt r0 l (8 * k)) :
    ∀ j, j ≤ 8 → BitVec.ofNat 32 (refRun r (l.getD k 0) j) = regAt r0 l (8 * k + j) := by
  intro j
  induction j with
  | zero => intro _; exact h
  | succ j ih =>
    intro hj
    have hb : l.getD k 0 / 2 ^ j % 2 < 2 := Nat.mod_lt _ (by decide)
    rw [refRun, refStep_stepB _ _ (refRun_lt r _ j hr) hb, ih (by omega)]
    rw [show 8 * k + (j + 1) = 8 * k + j + 1 by omega, regAt]
    congr 2
    unfold bitAt bit1
    rw [show (8 * k + j) / 8 = k by omega, show (8 * k + j) % 8 = j by omega, Nat.testBit_eq_decide_div_mod_eq]
    obtain h0 | h0 : l.getD k 0 / 2 ^ j % 2 = 0 ∨ l.getD k 0 / 2 ^ j % 2 = 1 := by omega
    · rw [h0]; rfl
    · rw [h0]; rfl

/-- The run of a row is the register behind all of its bits. -/
theorem runN_regAt (r : Nat) (hr : r < 4294967296) (l : List Nat) (hl : ∀ x ∈ l, x < 256) : ∀ k, k ≤ l.length → BitVec.ofNat 32 (runN r (l.take k)) = regAt (BitVec.ofNat 32 r) l (8 * k) := by
  intro k
  induction k with
  | zero => intro _; simp [runN, halvesN, regAt]
  | succ k ih =>
    intro hk
    have e : l.take (k + 1) = l.take k ++ [l.getD k 0] := by
      rw [List.take_succ_eq_append_getElem (by omega)]; congr 2; simp [List.getD, show k < l.length by omega]
    have hx : l.getD k 0 < 256 := by
      have : l.getD k 0 = l[k] := by simp [List.getD, show k < l.length by omega]
      rw [this]; exact hl _ (List.getElem_mem _)
    rw [e, runN_snoc, ← refRun_byte _ _ (runN_lt _ _ hr) hx]
    exact regAt_refRun _ (runN_lt _ _ hr) _ l k (ih (by omega)) 8 (by omega)

/-- What the registers of two rows differ by. -/
def diffAt (a b : List Nat) : Nat → BitVec 32
  | 0 => 0#32
  | p + 1 => stepB (diffAt a b p ^^^ bit1 (bitAt a p ^^ bitAt b p))

theorem regAt_diff (r : BitVec 32) (a b : List Nat) : ∀ p, regAt r a p ^^^ regAt r b p = diffAt a b p := by
  intro p
  induction p with
  | zero => simp [regAt, diffAt]
  | succ p ih =>
    simp only [regAt, diffAt]
    rw [← stepB_xor, ← ih]
    congr 1
    have : bit1 (bitAt a p ^^ bitAt b p) = bit1 (bitAt a p) ^^^ bit1 (bitAt b p) := by
      cases bitAt a p <;> cases bitAt b p <;> rfl
    rw [this]
    ac_rfl

/-- The bits differ just where the word t says, from the place s on, up to m bits. -/
def Differ (a b : List Nat) (s t m : Nat) : Prop := ∀ p, (bitAt a p ^^ bitAt b p) = (decide (s ≤ p) && decide (p < s + m) && t.testBit (p - s))

theorem diffAt_low {a b : List Nat} {s t m : Nat} (h : Differ a b s t m) : ∀ p, p ≤ s → diffAt a b p = 0#32 := by
  intro p
  induction p with
  | zero => intro _; rfl
  | succ p ih =>
    intro hp
    simp only [diffAt]
    rw [ih (by omega), h p, decide_eq_false (by omega), Bool.false_and, Bool.false_and]
    show stepB (0#32 ^^^ 0#32) = 0#32
    rw [BitVec.xor_self]; exact stepB_zero

theorem diffAt_mid {a b : List Nat} {s t m : Nat} (h : Differ a b s t m) (hm : m ≤ 32) : ∀ q, q ≤ m → diffAt a b (s + q) = stepsB q (BitVec.ofNat 32 (t % 2 ^ q)) := by
  intro q
  induction q with
  | zero => intro _; rw [Nat.add_zero, diffAt_low h s (Nat.le_refl _)]; simp [stepsB, Nat.mod_one]
  | succ q ih =>
    intro hq
    rw [show s + (q + 1) = s + q + 1 by omega, diffAt, ih (by omega), h (s + q), decide_eq_true (by omega), decide_eq_true (by omega), Bool.true_and, Bool.true_and, stepsB_snoc]
    congr 1
    rw [show s + q - s = q by omega, mod_pow_succ, BitVec.ofNat_xor, stepsB_xor]
    congr 1
    rw [Nat.testBit_eq_decide_div_mod_eq]
    obtain h0 | h0 : t / 2 ^ q % 2 = 0 ∨ t / 2 ^ q % 2 = 1 := by omega
    · rw [h0]; simp [bit1, stepsB_zero]
    · rw [h0, Nat.mul_one, bit_back32 q (by omega)]; rfl

theorem diffAt_high {a b : List Nat} {s t m : Nat} (h : Differ a b s t m) (hm : m ≤ 32) : ∀ z, diffAt a b (s + m + z) = stepsB (m + z) (BitVec.ofNat 32 (t % 2 ^ m)) := by
  intro z
  induction z with
  | zero => exact diffAt_mid h hm m (Nat.le_refl _)
  | succ z ih =>
    rw [show s + m + (z + 1) = s + m + z + 1 by omega, diffAt, ih, h (s + m + z), decide_eq_false (by omega : ¬ s + m + z < s + m), Bool.and_false, Bool.false_and]
    show stepB (_ ^^^ 0#32) = stepsB (m + z + 1) _
    rw [BitVec.xor_zero, stepsB_snoc]

/-- Two rows of one length that differ so: the sums are the same just if none of the m bits is turned. -/
theorem sum_differ {a b : List Nat} {s t m : Nat} (hl : b.length = a.length) (ha : ∀ x ∈ a, x < 256) (hb : ∀ x ∈ b, x < 256) (h : Differ a b s t m) (hm : m ≤ 32) (hs : s + m ≤ 8 * a.length) :
    extN 0 a = extN 0 b ↔ t % 2 ^ m = 0 := by
  have e1 : extN 0 a = extN 0 b ↔ runN 4294967295 a = runN 4294967295 b := by
    unfold extN
    rw [Nat.xor_zero]
    constructor
    · intro h
      have := congrArg (fun x => 4294967295 ^^^ x) h
      simpa only [not_not] using this
    · intro h; rw [h]
  have ra := runN_regAt 4294967295 (by decide) a ha a.length (Nat.le_refl _)
  have rb := runN_regAt 4294967295 (by decide) b hb b.length (Nat.le_refl _)
  rw [List.take_length] at ra rb
  rw [hl] at rb
  have hd := regAt_diff (BitVec.ofNat 32 4294967295) a b (8 * a.length)
  rw [← ra, ← rb] at hd
  have hz := diffAt_high h hm (8 * a.length - (s + m))
  rw [show s + m + (8 * a.length - (s + m)) = 8 * a.length by omega] at hz
  rw [hz] at hd
  have la := runN_lt 4294967295 a (by decide)
  have lb := runN_lt 4294967295 b (by decide)
  have lt : t % 2 ^ m < 4294967296 := Nat.lt_of_lt_of_le (Nat.mod_lt _ (Nat.two_pow_pos m)) (Nat.pow_le_pow_right (n := 2) (by decide) hm)
  rw [e1]
  constructor
  · intro h
    rw [h, BitVec.xor_self] at hd
    have := congrArg BitVec.toNat (stepsB_eq_zero _ _ hd.symm)
    rw [BitVec.toNat_ofNat, Nat.mod_eq_of_lt (by omega)] at this
    simpa using this
  · intro h
    rw [h, show BitVec.ofNat 32 0 = 0#32 from rfl, stepsB_zero] at hd
    have heq : BitVec.ofNat 32 (runN 4294967295 a) = BitVec.ofNat 32 (runN 4294967295 b) := by
      have := congrArg (· ^^^ BitVec.ofNat 32 (runN 4294967295 b)) hd
      simpa [BitVec.xor_assoc] using this
    have := congrArg BitVec.toNat heq
    rw [BitVec.toNat_ofNat, BitVec.toNat_ofNat, Nat.mod_eq_of_lt (by omega), Nat.mod_eq_of_lt (by omega)] at this
    exact this

/-- The row behind k rounds of the law's loop. -/
def flipN (b : List Nat) (s t : Nat) : Nat → List Nat
  | 0 => b
  | k + 1 => if t / 2 ^ k % 2 = 1 then (flipN b s t k).set ((s + k) / 8) ((flipN b s t k).getD ((s + k) / 8) 0 ^^^ 2 ^ ((s + k) % 8)) else flipN b s t k

theorem flipN_length (b : List Nat) (s t : Nat) : ∀ k, (flipN b s t k).length = b.length := by
  intro k
  induction k with
  | zero => rfl
  | succ k ih => unfold flipN; split <;> simp [ih]

theorem flipN_lt (b : List Nat) (s t : Nat) (h : ∀ x ∈ b, x < 256) : ∀ k, ∀ x ∈ flipN b s t k, x < 256 := by
  intro k
  induction k with
  | zero => exact h
  | succ k ih =>
    intro x hx
    unfold flipN at hx
    split at hx
    · rcases List.mem_or_eq_of_mem_set hx with h1 | rfl
      · exact ih x h1
      · have h1 : (flipN b s t k).getD ((s + k) / 8) 0 < 256 := by
          by_cases hk : (s + k) / 8 < (flipN b s t k).length
          · have : (flipN b s t k).getD ((s + k) / 8) 0 = (flipN b s t k)[(s + k) / 8] := by simp [List.getD, hk]
            rw [this]; exact ih _ (List.getElem_mem _)
          · have : (flipN b s t k).getD ((s + k) / 8) 0 = 0 := by simp [List.getD, List.getElem?_eq_none (show (flipN b s t k).length ≤ (s + k) / 8 by omega)]
            omega
        have h2 : 2 ^ ((s + k) % 8) < 256 := Nat.lt_of_le_of_lt (Nat.pow_le_pow_right (n := 2) (by decide) (show (s + k) % 8 ≤ 7 by omega)) (by decide)
        exact xor_lt8 h1 h2
    · exact ih x hx

theorem flipN_differ (b : List Nat) (s t : Nat) : ∀ k, s + k ≤ 8 * b.length → Differ b (flipN b s t k) s t k := by
  intro k
  induction k with
  | zero =>
    intro _ p
    by_cases h : s ≤ p
    · rw [decide_eq_false (by omega : ¬ p < s + 0)]; simp [flipN]
    · rw [decide_eq_false h]; simp [flipN]
  | succ k ih =>
    intro hk p
    have ihp := ih (by omega) p
    have hlen := flipN_length b s t k
    unfold flipN
    have hbit : t.testBit k = decide (t / 2 ^ k % 2 = 1) := Nat.testBit_eq_decide_div_mod_eq
    by_cases hp : p = s + k
    · have e : s + k - s = k := by omega
      rw [hp] at ihp ⊢
      rw [decide_eq_false (by omega : ¬ s + k < s + k), Bool.and_false, Bool.false_and] at ihp
      rw [decide_eq_true (by omega : s ≤ s + k), decide_eq_true (by omega : s + k < s + (k + 1)), e, hbit]
      by_cases h1 : t / 2 ^ k % 2 = 1
      · rw [if_pos h1, decide_eq_true h1]
        have hin : (s + k) / 8 < (flipN b s t k).length := by rw [hlen]; omega
        have hb : bitAt ((flipN b s t k).set ((s + k) / 8) ((flipN b s t k).getD ((s + k) / 8) 0 ^^^ 2 ^ ((s + k) % 8))) (s + k) = !bitAt (flipN b s t k) (s + k) := by
          unfold bitAt
          have e2 : ((flipN b s t k).set ((s + k) / 8) ((flipN b s t k).getD ((s + k) / 8) 0 ^^^ 2 ^ ((s + k) % 8))).getD ((s + k) / 8) 0 = (flipN b s t k).getD ((s + k) / 8) 0 ^^^ 2 ^ ((s + k) % 8) := by
            simp [List.getD, hin]
          rw [e2, Nat.testBit_xor, Nat.testBit_two_pow_self, Bool.xor_true]
        rw [hb]
        cases h3 : bitAt b (s + k) <;> cases h4 : bitAt (flipN b s t k) (s + k) <;> simp_all
      · rw [if_neg h1, decide_eq_false h1, ihp]; rfl
    · have e : (decide (s ≤ p) && decide (p < s + (k + 1)) && t.testBit (p - s)) = (decide (s ≤ p) && decide (p < s + k) && t.testBit (p - s)) := by
        congr 2
        rw [decide_eq_decide]; omega
      rw [e, ← ihp]
      by_cases h1 : t / 2 ^ k % 2 = 1
      · rw [if_pos h1]
        congr 1
        unfold bitAt
        by_cases h5 : p / 8 = (s + k) / 8
        · have h6 : p % 8 ≠ (s + k) % 8 := by omega
          rw [h5]
          have hin : (s + k) / 8 < (flipN b s t k).length := by rw [hlen]; omega
          have e2 : ((flipN b s t k).set ((s + k) / 8) ((flipN b s t k).getD ((s + k) / 8) 0 ^^^ 2 ^ ((s + k) % 8))).getD ((s + k) / 8) 0 = (flipN b s t k).getD ((s + k) / 8) 0 ^^^ 2 ^ ((s + k) % 8) := by
            simp [List.getD, hin]
          rw [e2, Nat.testBit_xor, Nat.testBit_two_pow_of_ne (Ne.symm h6), Bool.xor_false]
        · have e2 : ((flipN b s t k).set ((s + k) / 8) ((flipN b s t k).getD ((s + k) / 8) 0 ^^^ 2 ^ ((s + k) % 8))).getD (p / 8) 0 = (flipN b s t k).getD (p / 8) 0 := by
            simp [List.getD, Ne.symm h5]
          rw [e2]
      · rw [if_neg h1]

end Go.Proofs.YtnhkpemajknfnaaGreatDoor.Crc

/-
  Plain facts on frames: a number's four bytes, a payload's frame, what is read at a place, and rows of frames.
-/
namespace Go.Proofs.YtnhkpemajknfnaaGreatDoor.Frame
open Go.Proofs.YtnhkpemajknfnaaGreatDoor.Crc

/-- A number's four bytes, the lowest first; and the number of four bytes. -/
def le4 (n : Nat) : List Nat := [n % 256, n / 256 % 256, n / 65536 % 256, n / 16777216 % 256]
def num4 (b : List Nat) : Nat := b.getD 0 0 + 256 * (b.getD 1 0 + 256 * (b.getD 2 0 + 256 * b.getD 3 0))

theorem le4_length (n : Nat) : (le4 n).length = 4 := rfl
theorem le4_lt (n : Nat) : ∀ x ∈ le4 n, x < 256 := by
  intro x hx
  simp only [le4, List.mem_cons, List.not_mem_nil, or_false] at hx
  omega
theorem num4_le4 (n : Nat) (h : n < 4294967296) (r : List Nat) : num4 (le4 n ++ r) = n := by
  simp only [num4, le4, List.cons_append, List.getD_cons_zero, List.getD_cons_succ]
  omega
theorem getD_lt' {l : List Nat} (h : ∀ x ∈ l, x < 256) (k : Nat) : l.getD k 0 < 256 := by
  by_cases hk : k < l.length
  · have : l.getD k 0 = l[k] := by simp [List.getD, hk]
    rw [this]; exact h _ (List.getElem_mem _)
  · have : l.getD k 0 = 0 := by simp [List.getD, List.getElem?_eq_none (show l.length ≤ k by omega)]
    omega
theorem num4_lt {b : List Nat} (h : ∀ x ∈ b, x < 256) : num4 b < 4294967296 := by
  have h0 := getD_lt' h 0
  have h1 := getD_lt' h 1
  have h2 := getD_lt' h 2
  have h3 := getD_lt' h 3
  unfold num4; omega
theorem le4_num4 {b : List Nat} (h : ∀ x ∈ b, x < 256) (hl : 4 ≤ b.length) : le4 (num4 b) = b.take 4 := by
  match b, hl with
  | a :: b :: c :: d :: r, _ =>
    have h0 := h a (by simp)
    have h1 := h b (by simp)
    have h2 := h c (by simp)
    have h3 := h d (by simp)
    simp only [num4, le4, List.getD_cons_zero, List.getD_cons_succ, List.take_succ_cons, List.take_zero, List.cons.injEq, and_true]
    omega
theorem num4_take (b : List Nat) (k : Nat) (hk : 4 ≤ k) : num4 (b.take k) = num4 b := by
  have h : ∀ j, j < 4 → (b.take k).getD j 0 = b.getD j 0 := by
    intro j hj
    simp only [List.getD_eq_getElem?_getD]
    rw [List.getElem?_take, if_pos (by omega)]
  unfold num4
  rw [h 0 (by omega), h 1 (by omega), h 2 (by omega), h 3 (by omega)]

theorem getD_piece (b : List Nat) (i l j : Nat) : ((b.drop i).take l).getD j 0 = if j < l then b.getD (i + j) 0 else 0 := by
  simp only [List.getD_eq_getElem?_getD]
  rw [List.getElem?_take]
  split
  · rw [List.getElem?_drop]
  · rfl

/-- The frame of a payload. -/
def frameN (p : List Nat) : List Nat := le4 p.length ++ (le4 (extN 0 (le4 p.length)) ++ (p ++ le4 (extN 0 p)))
theorem frameN_length (p : List Nat) : (frameN p).length = 12 + p.length := by
  simp only [frameN, List.length_append, le4_length]; omega
theorem frameN_lt {p : List Nat} (h : ∀ x ∈ p, x < 256) : ∀ x ∈ frameN p, x < 256 := by
  intro x hx
  simp only [frameN, List.mem_append] at hx
  rcases hx with hx | hx | hx | hx
  · exact le4_lt _ x hx
  · exact le4_lt _ x hx
  · exact h x hx
  · exact le4_lt _ x hx

/-- What is read of the bytes from a place on: the payload, the place behind, the error. -/
def readN (r : List Nat) (at0 : Nat) : List Nat × Nat × Nat :=
  if r.length < 8 then ([], 0, 5)
  else if num4 (r.drop 4) ≠ extN 0 (r.take 4) then ([], 0, 4)
  else if 65536 < num4 r then ([], 0, 2)
  else if r.length < num4 r + 12 then ([], 0, 5)
  else if num4 (r.drop (8 + num4 r)) ≠ extN 0 ((r.drop 8).take (num4 r)) then ([], 0, 4)
  else ((r.drop 8).take (num4 r), at0 + 12 + num4 r, 0)
def nextN (b : List Nat) (at0 : Nat) : List Nat × Nat × Nat := readN (b.drop at0) at0

theorem readN_end1 {r : List Nat} {at0 : Nat} (h : r.length < 8) : readN r at0 = ([], 0, 5) := by
  unfold readN; rw [if_pos h]
theorem readN_sum1 {r : List Nat} {at0 : Nat} (h : 8 ≤ r.length) (h1 : num4 (r.drop 4) ≠ extN 0 (r.take 4)) : readN r at0 = ([], 0, 4) := by
  unfold readN; rw [if_neg (by omega), if_pos h1]
theorem readN_long {r : List Nat} {at0 : Nat} (h : 8 ≤ r.length) (h1 : num4 (r.drop 4) = extN 0 (r.take 4)) (h2 : 65536 < num4 r) : readN r at0 = ([], 0, 2) := by
  unfold readN; rw [if_neg (by omega), if_neg (by simpa using h1), if_pos h2]
theorem readN_end2 {r : List Nat} {at0 : Nat} (h : 8 ≤ r.length) (h1 : num4 (r.drop 4) = extN 0 (r.take 4)) (h2 : num4 r ≤ 65536) (h3 : r.length < num4 r + 12) : readN r at0 = ([], 0, 5) := by
  unfold readN; rw [if_neg (by omega), if_neg (by simpa using h1), if_neg (by omega), if_pos h3]
theorem readN_sum2 {r : List Nat} {at0 : Nat} (h : 8 ≤ r.length) (h1 : num4 (r.drop 4) = extN 0 (r.take 4)) (h2 : num4 r ≤ 65536) (h3 : num4 r + 12 ≤ r.length) (h4 : num4 (r.drop (8 + num4 r)) ≠ extN 0 ((r.drop 8).take (num4 r))) : readN r at0 = ([], 0, 4) := by
  unfold readN; rw [if_neg (by omega), if_neg (by simpa using h1), if_neg (by omega), if_neg (by omega), if_pos h4]
theorem readN_good {r : List Nat} {at0 : Nat} (h : 8 ≤ r.length) (h1 : num4 (r.drop 4) = extN 0 (r.take 4)) (h2 : num4 r ≤ 65536) (h3 : num4 r + 12 ≤ r.length) (h4 : num4 (r.drop (8 + num4 r)) = extN 0 ((r.drop 8).take (num4 r))) :
    readN r at0 = ((r.drop 8).take (num4 r), at0 + 12 + num4 r, 0) := by
  unfold readN; rw [if_neg (by omega), if_neg (by simpa using h1), if_neg (by omega), if_neg (by omega), if_neg (by simpa using h4)]

theorem drop_app {a b : List Nat} {k : Nat} (h : a.length = k) : (a ++ b).drop k = b := by subst h; simp
theorem take_app {a b : List Nat} {k : Nat} (h : a.length = k) : (a ++ b).take k = a := by subst h; simp

/-- What is read of bytes that begin as a frame. -/
theorem readN_frame (p rest : List Nat) (hp : p.length ≤ 65536) (at0 : Nat) : readN (frameN p ++ rest) at0 = (p, at0 + 12 + p.length, 0) := by
  have hs : extN 0 (le4 p.length) < 4294967296 := extN_lt 0 _ (by decide)
  have hs2 : extN 0 p < 4294967296 := extN_lt 0 _ (by decide)
  have e : frameN p ++ rest = le4 p.length ++ (le4 (extN 0 (le4 p.length)) ++ (p ++ (le4 (extN 0 p) ++ rest))) := by simp [frameN, List.append_assoc]
  have hn : num4 (frameN p ++ rest) = p.length := by rw [e]; exact num4_le4 _ (by omega) _
  have h8 : (frameN p ++ rest).drop 8 = p ++ (le4 (extN 0 p) ++ rest) := by
    rw [e, show (8 : Nat) = 4 + 4 from rfl, ← List.drop_drop, drop_app (le4_length _), drop_app (le4_length _)]
  have ht : ((frameN p ++ rest).drop 8).take p.length = p := by rw [h8, take_app rfl]
  rw [readN_good (at0 := at0)]
  · rw [hn, ht]
  · rw [List.length_append, frameN_length]; omega
  · rw [e, drop_app (le4_length _), take_app (le4_length _), num4_le4 _ hs]
  · omega
  · rw [hn, List.length_append, frameN_length]; omega
  · rw [hn, ht, ← List.drop_drop, h8, drop_app rfl, num4_le4 _ hs2]

/-- What is read of the beginning of a frame alone: an error. -/
theorem readN_part (p : List Nat) (hp : p.length ≤ 65536) (m : Nat) (hm : m < 12 + p.length) (at0 : Nat) : (readN ((frameN p).take m) at0).2.2 ≠ 0 := by
  have hs : extN 0 (le4 p.length) < 4294967296 := extN_lt 0 _ (by decide)
  have hlen : ((frameN p).take m).length = m := by rw [List.length_take, frameN_length]; omega
  by_cases h8 : m < 8
  · rw [readN_end1 (by omega)]; decide
  · have hn : num4 ((frameN p).take m) = p.length := by
      rw [num4_take _ _ (by omega)]
      show num4 (le4 p.length ++ _) = _
      exact num4_le4 _ (by omega) _
    rw [readN_end2 (by omega) ?_ (by omega) (by omega)]
    · decide
    · rw [List.drop_take, num4_take _ _ (by omega), List.take_take, show min 4 m = 4 by omega]
      show num4 ((le4 p.length ++ (le4 (extN 0 (le4 p.length)) ++ _)).drop 4) = extN 0 ((le4 p.length ++ _).take 4)
      rw [drop_app (le4_length _), take_app (le4_length _), num4_le4 _ hs]

theorem readN_nil (at0 : Nat) : (readN [] at0).2.2 ≠ 0 := by rw [readN_end1 (by simp)]; decide

/-- The good answer's parts. -/
theorem readN_ok {r : List Nat} {at0 : Nat} (h : (readN r at0).2.2 = 0) : readN r at0 = ((r.drop 8).take (num4 r), at0 + 12 + num4 r, 0) ∧ num4 r ≤ 65536 ∧ num4 r + 12 ≤ r.length ∧ num4 (r.drop 4) = extN 0 (r.take 4) ∧ num4 (r.drop (8 + num4 r)) = extN 0 ((r.drop 8).take (num4 r)) := by
  by_cases h0 : r.length < 8
  · rw [readN_end1 h0] at h; cases h
  by_cases h1 : num4 (r.drop 4) = extN 0 (r.take 4)
  · by_cases h2 : 65536 < num4 r
    · rw [readN_long (by omega) h1 h2] at h; cases h
    · by_cases h3 : r.length < num4 r + 12
      · rw [readN_end2 (by omega) h1 (by omega) h3] at h; cases h
      · by_cases h4 : num4 (r.drop (8 + num4 r)) = extN 0 ((r.drop 8).take (num4 r))
        · exact ⟨readN_good (by omega) h1 (by omega) (by omega) h4, by omega, by omega, h1, h4⟩
        · rw [readN_sum2 (by omega) h1 (by omega) (by omega) h4] at h; cases h
  · rw [readN_sum1 (by omega) h1] at h; cases h
theorem readN_err {r : List Nat} {at0 : Nat} (h : (readN r at0).2.2 ≠ 0) : (readN r at0).1 = [] ∧ (readN r at0).2.1 = 0 := by
  by_cases h0 : r.length < 8
  · rw [readN_end1 h0]; exact ⟨rfl, rfl⟩
  by_cases h1 : num4 (r.drop 4) = extN 0 (r.take 4)
  · by_cases h2 : 65536 < num4 r
    · rw [readN_long (by omega) h1 h2]; exact ⟨rfl, rfl⟩
    · by_cases h3 : r.length < num4 r + 12
      · rw [readN_end2 (by omega) h1 (by omega) h3]; exact ⟨rfl, rfl⟩
      · by_cases h4 : num4 (r.drop (8 + num4 r)) = extN 0 ((r.drop 8).take (num4 r))
        · rw [readN_good (by omega) h1 (by omega) (by omega) h4] at h; exact absurd rfl h
        · rw [readN_sum2 (by omega) h1 (by omega) (by omega) h4]; exact ⟨rfl, rfl⟩
  · rw [readN_sum1 (by omega) h1]; exact ⟨rfl, rfl⟩

/-- Of the bytes these payloads are told from the front, up to this place. -/
inductive Told (b : List Nat) : List (List Nat) → Nat → Prop
  | none : Told b [] 0
  | more {ps : List (List Nat)} {at0 : Nat} (p : List Nat) (to : Nat) : Told b ps at0 → nextN b at0 = (p, to, 0) → Told b (ps ++ [p]) to

/-- .. and no more. -/
def Done (b : List Nat) (at0 : Nat) : Prop := (nextN b at0).2.2 ≠ 0

theorem Told.le {b : List Nat} {ps : List (List Nat)} {at0 : Nat} (h : Told b ps at0) : at0 ≤ b.length ∧ 12 * ps.length ≤ at0 := by
  induction h with
  | none => simp
  | more p to _ h ih =>
    have h0 := readN_ok (r := b.drop _) (at0 := _) (by show (nextN b _).2.2 = 0; rw [h])
    obtain ⟨h1, h2, h3, _, _⟩ := h0
    have h4 : nextN b _ = _ := h1
    rw [h] at h4
    simp only [Prod.mk.injEq] at h4
    obtain ⟨_, h5, _⟩ := h4
    rw [List.length_drop] at h3
    simp only [List.length_append, List.length_cons, List.length_nil]
    omega

theorem told_snoc {b : List Nat} {ps : List (List Nat)} {p : List Nat} {to : Nat} (h : Told b (ps ++ [p]) to) : ∃ at0, Told b ps at0 ∧ nextN b at0 = (p, to, 0) := by
  generalize hq : ps ++ [p] = q at h
  cases h with
  | none => simp at hq
  | more p' to' h1 h2 =>
    have := List.append_inj' hq rfl
    obtain ⟨rfl, h3⟩ := this
    simp only [List.cons.injEq, and_true] at h3
    subst h3
    exact ⟨_, h1, h2⟩
theorem told_nil {b : List Nat} {to : Nat} (h : Told b [] to) : to = 0 := by
  generalize hq : ([] : List (List Nat)) = q at h
  cases h with
  | none => rfl
  | more p' to' h1 h2 => simp at hq

/-- As many payloads: the same ones, up to the same place. -/
theorem told_same {b : List Nat} : ∀ (n : Nat) {ps qs : List (List Nat)} {x y : Nat}, ps.length = n → qs.length = n → Told b ps x → Told b qs y → ps = qs ∧ x = y := by
  intro n
  induction n with
  | zero =>
    intro ps qs x y hp hq h1 h2
    obtain rfl : ps = [] := List.length_eq_zero_iff.1 hp
    obtain rfl : qs = [] := List.length_eq_zero_iff.1 hq
    exact ⟨rfl, (told_nil h1).trans (told_nil h2).symm⟩
  | succ n ih =>
    intro ps qs x y hp hq h1 h2
    rcases List.eq_nil_or_concat ps with rfl | ⟨ps', p, rfl⟩
    · simp at hp
    rcases List.eq_nil_or_concat qs with rfl | ⟨qs', q, rfl⟩
    · simp at hq
    rw [List.concat_eq_append] at *
    obtain ⟨a, ha, ha2⟩ := told_snoc h1
    obtain ⟨c, hc, hc2⟩ := told_snoc h2
    obtain ⟨rfl, rfl⟩ := ih (by simpa using hp) (by simpa using hq) ha hc
    rw [ha2] at hc2
    simp only [Prod.mk.injEq, and_true] at hc2
    obtain ⟨e1, e2⟩ := hc2
    exact ⟨by rw [e1]; simp, e2⟩
theorem told_take {b : List Nat} {ps : List (List Nat)} {x : Nat} (h : Told b ps x) : ∀ k, k ≤ ps.length → ∃ y, Told b (ps.take k) y := by
  induction h with
  | none => intro k hk; exact ⟨0, by simpa using Told.none⟩
  | more p to h1 h2 ih =>
    intro k hk
    simp only [List.length_append, List.length_cons, List.length_nil] at hk
    rename_i qs a0
    by_cases h : k ≤ qs.length
    · rw [List.take_append_of_le_length h]; exact ih k h
    · rw [List.take_of_length_le (by simp; omega)]
      exact ⟨to, .more p to h1 h2⟩
/-- Where one row of payloads is all, no other one is longer, and each is a beginning of it. -/
theorem told_done {b : List Nat} {ps qs : List (List Nat)} {x y : Nat} (h1 : Told b ps x) (h2 : Told b qs y) (hd : Done b y) : ps.length ≤ qs.length ∧ ps = qs.take ps.length := by
  have hle : ps.length ≤ qs.length := by
    refine Nat.le_of_not_lt fun hlt => ?_
    obtain ⟨z, hz⟩ := told_take h1 (qs.length + 1) (by omega)
    have e : ps.take (qs.length + 1) = ps.take qs.length ++ [ps[qs.length]] := List.take_succ_eq_append_getElem hlt
    rw [e] at hz
    obtain ⟨a, ha, ha2⟩ := told_snoc hz
    obtain ⟨h3, rfl⟩ := told_same _ (by simp; omega) rfl ha h2
    exact hd (by rw [ha2])
  refine ⟨hle, ?_⟩
  obtain ⟨z, hz⟩ := told_take h2 ps.length hle
  exact (told_same _ rfl (by simp; omega) h1 hz).1
theorem told_all {b : List Nat} {ps qs : List (List Nat)} {x y : Nat} (h1 : Told b ps x) (hd1 : Done b x) (h2 : Told b qs y) (hd : Done b y) : ps = qs ∧ x = y := by
  have a := told_done h1 h2 hd
  have c := told_done h2 h1 hd1
  exact told_same _ rfl (by omega) h1 h2

/-- Frames one behind the other. -/
def rowN (ps : List (List Nat)) : List Nat := (ps.map frameN).flatten
theorem rowN_snoc (ps : List (List Nat)) (p : List Nat) : rowN (ps ++ [p]) = rowN ps ++ frameN p := by simp [rowN]
theorem rowN_append (ps qs : List (List Nat)) : rowN (ps ++ qs) = rowN ps ++ rowN qs := by simp [rowN]
theorem rowN_lt {ps : List (List Nat)} (h : ∀ p ∈ ps, ∀ x ∈ p, x < 256) : ∀ x ∈ rowN ps, x < 256 := by
  intro x hx
  simp only [rowN, List.mem_flatten, List.mem_map] at hx
  obtain ⟨l, ⟨p, hp, rfl⟩, hx⟩ := hx
  exact frameN_lt (h p hp) x hx

/-- Of frames one behind the other, whatever stands behind them, the payloads are told. -/
theorem told_row (rest : List Nat) : ∀ (ps : List (List Nat)), (∀ p ∈ ps, p.length ≤ 65536) → Told (rowN ps ++ rest) ps (rowN ps).length := by
  have key : ∀ (n : Nat) (ps : List (List Nat)) (rest : List Nat), ps.length = n → (∀ p ∈ ps, p.length ≤ 65536) → Told (rowN ps ++ rest) ps (rowN ps).length := by
    intro n
    induction n with
    | zero => intro ps rest hn _; obtain rfl : ps = [] := List.length_eq_zero_iff.1 hn; exact .none
    | succ n ih =>
      intro ps rest hn hp
      rcases List.eq_nil_or_concat ps with rfl | ⟨ps', p, rfl⟩
      · simp at hn
      rw [List.concat_eq_append] at *
      have h := ih ps' (frameN p ++ rest) (by simpa using hn) (fun q hq => hp q (by simp [hq]))
      have e : rowN (ps' ++ [p]) ++ rest = rowN ps' ++ (frameN p ++ rest) := by rw [rowN_snoc, List.append_assoc]
      rw [e]
      refine .more p _ h ?_
      unfold nextN
      rw [drop_app rfl, readN_frame p rest (hp p (by simp))]
      rw [rowN_snoc, List.length_append, frameN_length, Nat.add_assoc]
  intro ps hp
  exact key _ ps rest rfl hp

/-- .. and where what stands behind them is no frame's beginning, no more. -/
theorem done_row {ps : List (List Nat)} {rest : List Nat} (h : ∀ at0, (readN rest at0).2.2 ≠ 0) : Done (rowN ps ++ rest) (rowN ps).length := by
  unfold Done nextN; rw [drop_app rfl]; exact h _

/-- A row cut short: the payloads that are whole, and no more. -/
theorem told_short {ps : List (List Nat)} (hp : ∀ p ∈ ps, p.length ≤ 65536) (short n : Nat) (hn : n ≤ ps.length) (h1 : (rowN (ps.take n)).length ≤ short) (h2 : n = ps.length ∨ short < (rowN (ps.take (n + 1))).length) :
    Told ((rowN ps).take short) (ps.take n) (rowN (ps.take n)).length ∧ Done ((rowN ps).take short) (rowN (ps.take n)).length := by
  have e : rowN ps = rowN (ps.take n) ++ rowN (ps.drop n) := by rw [← rowN_append, List.take_append_drop]
  have e2 : (rowN ps).take short = rowN (ps.take n) ++ (rowN (ps.drop n)).take (short - (rowN (ps.take n)).length) := by
    rw [e, List.take_append, List.take_of_length_le h1]
  rw [e2]
  refine ⟨told_row _ _ (fun p hp' => hp p (List.mem_of_mem_take hp')), done_row fun at0 => ?_⟩
  rcases h2 with rfl | h2
  · rw [List.drop_of_length_le (Nat.le_refl _)]
    show (readN (([] : List Nat).take _) at0).2.2 ≠ 0
    rw [List.take_nil]; exact readN_nil _
  · by_cases hnl : n < ps.length
    · have e3 : ps.drop n = ps[n] :: ps.drop (n + 1) := List.drop_eq_getElem_cons hnl
      have e4 : ps.take (n + 1) = ps.take n ++ [ps[n]] := List.take_succ_eq_append_getElem hnl
      rw [e4, rowN_snoc, List.length_append, frameN_length] at h2
      have e5 : rowN (ps.drop n) = frameN ps[n] ++ rowN (ps.drop (n + 1)) := by rw [e3]; rfl
      rw [e5, List.take_append_of_le_length (by rw [frameN_length]; omega)]
      exact readN_part _ (hp _ (List.getElem_mem _)) _ (by omega) _
    · obtain rfl : n = ps.length := by omega
      rw [List.drop_of_length_le (Nat.le_refl _)]
      show (readN (([] : List Nat).take _) at0).2.2 ≠ 0
      rw [List.take_nil]; exact readN_nil _

end Go.Proofs.YtnhkpemajknfnaaGreatDoor.Frame

/-
  Contracts of the project's package frame and of the document's own answer: a number's four bytes, put behind bytes and read; a copy of bytes.
-/
namespace Go.Proofs.YtnhkpemajknfnaaGreatDoor.Frame
open Go.RowKit Go.Shelf Go.Proofs.YtnhkpemajknfnaaGreatDoor.Law Go.Proofs.YtnhkpemajknfnaaGreatDoor.Crc

/-- Bytes of the call's own are handed back, and nothing below the base has turned. -/
def Owned (base : Nat) (w : World) (bs : List Nat) (e : Ending) (W : World) : Prop := ∃ v, e = .returned v ∧ OwnB W base 5 v bs ∧ Below base w W

theorem info_u8' : (Tryz.prog.info? 5).map (fun i => (i.zero, i.size, i.bytes)) = some (some (.int .u8 0), 1, 1) := by kernel_rfl

set_option maxHeartbeats 1000000 in
theorem frameLen_calls (n : Nat) (hn : n ≤ 281474976710656) (w : World) :
    Calls Tryz.prog 67 #[.int .i64 (n : Nat)] w fun e W' => e = .returned (.int .i64 ((n + 12 : Nat) : Int)) ∧ w = W' := by
  have h1 : 8 + (n : Int) ≤ 1000000000000000000 := by omega
  go_enter Tryz.func67, Tryz.ntmps67
  go_wp2
  go_ret
  exact ⟨by rw [show ((n + 12 : Nat) : Int) = 8 + (n : Int) + 4 by omega]; rfl, rfl⟩

set_option maxRecDepth 100000 in
set_option maxHeartbeats 1000000 in
theorem appendNum_calls (v : Value) (xs : List Nat) (hx : xs.length ≤ 1048576) (n : Nat) (hn : n < 4294967296) (base : Nat) (w : World) (hO : OwnB w base 5 v xs) (hb : base ≤ w.heap.size) :
    Calls Tryz.prog 68 #[v, .int .u32 (n : Nat)] w (Owned base w (xs ++ le4 n)) := by
  obtain ⟨i0, hi, hz0, hz1, hz2⟩ := info_parts info_u8'
  have hB1 : ∀ o, Below base w (w.alloc o) := fun o => (Below.refl _ w).alloc hb o
  go_enter Tryz.func68, Tryz.ntmps68
  go_wp2_with (at_builtin; refine wpList_append_bytes rfl _ _ _ rfl Tryz.underlying29 hi hz0 hz1 hz2 rfl rfl rfl (hO.alloc _) (Bytes.lit w _ _ (le4 n) 4 (by rfl) (by decide) ?lit (le4_lt n)) (by rw [le4_length]; omega) (by simp; omega) ?next)
  case lit =>
    have e : n / 16777216 % 256 = n / 16777216 := by omega
    simp [vals, le4, e]
  case next =>
    intro v' w' O' G'
    go_wp2
    go_ret
    exact ⟨v', rfl, O', below_append (hB1 _) G' (hO.alloc _) (Nat.le_refl _) (by simp; omega)⟩

theorem or_join (x y i m : Nat) (hm : 2 ^ i = m) (hx : x < m) (h : x + m * y < 4294967296) : bits .or .u32 (x : Int) ((m * y : Nat) : Int) = ((x + m * y : Nat) : Int) := by
  subst hm
  rw [u32_or_nat _ _ (by omega) (by omega), Nat.or_comm, nat_join i (2 ^ i * y) x (by rw [Nat.mul_mod_right]) hx, Nat.add_comm]

set_option maxRecDepth 100000 in
set_option maxHeartbeats 2000000 in
/-- The number at the front of bytes. -/
theorem num_calls (sv : Value) (bs : List Nat) (h4 : 4 ≤ bs.length) (hreach : bs.length ≤ 140737488351232) (w : World) {n : Nat} (hI : Bytes n w sv bs) :
    Calls Tryz.prog 94 #[sv] w fun e W' => e = .returned (.int .u32 (num4 bs : Nat)) ∧ Below w.heap.size w W' := by
  obtain ⟨A, cap, rfl⟩ := hI.form
  have h256 := hI.lt
  obtain ⟨b, off, rfl, hb, hc⟩ := hI.cells (by omega)
  have c0 := hc 0 (by omega)
  have c1 := hc 1 (by omega)
  have c2 := hc 2 (by omega)
  have c3 := hc 3 (by omega)
  have x0 := getD_lt' h256 0
  have x1 := getD_lt' h256 1
  have x2 := getD_lt' h256 2
  have x3 := getD_lt' h256 3
  obtain ⟨N, hN⟩ : ∃ N, num4 bs = N := ⟨_, rfl⟩
  rw [hN]
  unfold num4 at hN
  obtain ⟨len, hlen⟩ : ∃ len, bs.length = len := ⟨_, rfl⟩
  rw [hlen] at h4 hreach ⊢
  obtain ⟨b0, e0⟩ : ∃ x, bs.getD 0 0 = x := ⟨_, rfl⟩
  obtain ⟨b1, e1⟩ : ∃ x, bs.getD 1 0 = x := ⟨_, rfl⟩
  obtain ⟨b2, e2⟩ : ∃ x, bs.getD 2 0 = x := ⟨_, rfl⟩
  obtain ⟨b3, e3⟩ : ∃ x, bs.getD 3 0 = x := ⟨_, rfl⟩
  rw [e0] at c0 x0 hN
  rw [e1] at c1 x1 hN
  rw [e2] at c2 x2 hN
  rw [e3] at c3 x3 hN
  rw [Nat.add_zero] at c0
  clear hI h256 hc hlen e0 e1 e2 e3
  have hval : bits .or .u32 (bits .or .u32 (bits .or .u32 (b0 : Int) ((b1 : Int) * 256)) ((b2 : Int) * 65536)) ((b3 : Int) * 16777216) = (N : Int) := by
    rw [show (b1 : Int) * 256 = ((256 * b1 : Nat) : Int) by omega, or_join b0 b1 8 256 (by decide) (by omega) (by omega),
      show (b2 : Int) * 65536 = ((65536 * b2 : Nat) : Int) by omega, or_join _ b2 16 65536 (by decide) (by omega) (by omega),
      show (b3 : Int) * 16777216 = ((16777216 * b3 : Nat) : Int) by omega, or_join _ b3 24 16777216 (by decide) (by omega) (by omega)]
    omega
  have HV := Lib.hid hval
  clear hval hN
  go_enter Tryz.func94, Tryz.ntmps94
  go_wp2
  go_quiet (fail)
  go_wp2
  go_ret
  exact ⟨congrArg (fun z => Ending.returned (Value.int .u32 z)) HV.out, below_drewN (Below.refl _ _) _⟩

theorem run_eql_nil {P : Program} (t e : TypeId) (a : Option Addr) (l c : Nat) (h : P.underlying t = some (.slice e)) (w : World) : (binOp .eql t (.slice a l c) (.slice none 0 0)).run P w = .ok (.bool a.isNone) w := by
  simp only [binOp]
  simp [run_equal_slice_nil w t e a l c h]

set_option maxRecDepth 100000 in
set_option maxHeartbeats 1000000 in
/-- A copy of bytes. -/
theorem clone_calls (sv : Value) (bs : List Nat) (hreach : bs.length ≤ 140737488351232) (w : World) (hI : Bytes w.heap.size w sv bs) :
    Calls Tryz.prog 57 #[sv] w (Owned w.heap.size w bs) := by
  obtain ⟨i0, hi, hz0, hz1, hz2⟩ := info_parts info_u8'
  have hB1 : ∀ o, Below w.heap.size w (w.alloc o) := fun o => (Below.refl _ w).alloc (Nat.le_refl _) o
  obtain ⟨A, cap, rfl⟩ := hI.form
  cases A with
  | none =>
    obtain ⟨A', cap', e, h1, h2, h3, h4⟩ := hI
    simp only [Value.slice.injEq] at e
    obtain ⟨rfl, _, rfl⟩ := e
    obtain rfl := h2 rfl
    obtain rfl : bs = [] := List.length_eq_zero_iff.1 (by omega)
    have he := run_eql_nil (P := Tryz.prog) 29 5 none 0 0 Tryz.underlying29 w
    clear h3 h4 hreach h2
    go_enter Tryz.func57, Tryz.ntmps57
    go_wp2
    go_ret
    exact ⟨_, rfl, ⟨by simpa [vals] using World.ownsRow_nil w w.heap.size 5 1, by simp⟩, Below.refl _ _⟩
  | some a =>
    have he := run_eql_nil (P := Tryz.prog) 29 5 (some a) bs.length cap Tryz.underlying29 w
    have HI := Lib.hid hI
    obtain ⟨len, hlen⟩ : ∃ len, bs.length = len := ⟨_, rfl⟩
    rw [hlen] at HI he ⊢
    have HL := Lib.hid hlen
    have hO2 : OwnB (w.alloc (.cells #[] 5)) w.heap.size 5 (.slice (some ⟨w.heap.size, 0, none⟩) 0 0) [] := ⟨World.ownsRow_made w #[] 0 (Nat.le_refl _) (by simp [maxLen]) rfl, by simp⟩
    have hI2 := HI.out.below (hB1 (.cells #[] 5))
    have hlen2 : ([] : List Nat).length + bs.length ≤ 140737488355328 := by rw [List.length_nil]; omega
    have HI2 := Lib.hid hI2
    have HN2 := Lib.hid hlen2
    have HO2 := Lib.hid hO2
    clear hlen hI hO2 hI2 hlen2
    go_enter Tryz.func57, Tryz.ntmps57
    go_wp2_with (at_builtin; refine wpList_append_bytes rfl _ _ _ rfl Tryz.underlying29 hi hz0 hz1 hz2 rfl rfl rfl HO2.out HI2.out HN2.out (by simp) ?next)
    case next =>
      intro v' w' O' G'
      go_wp2
      go_ret
      exact ⟨v', rfl, O', below_append (hB1 _) G' HO2.out (Nat.le_refl _) (by simp)⟩

end Go.Proofs.YtnhkpemajknfnaaGreatDoor.Frame
