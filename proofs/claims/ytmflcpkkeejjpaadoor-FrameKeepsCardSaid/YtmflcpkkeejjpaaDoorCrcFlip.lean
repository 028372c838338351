/-
  Plain facts: bytes whose bits are turned within a window of 32 have another register, unless none is turned.
-/
import Derived.Test.YtmflcpkkeejjpaaDoorCrcMath
namespace Go.Proofs.YtmflcpkkeejjpaaDoor.Crc

theorem stepsB_snoc : ∀ (j : Nat) (y : BitVec 32), stepsB (j + 1) y = stepB (stepsB j y) := by
  intro j
  induction j with
  | zero => intro y; rfl
  | succ j ih => intro y; simp only [stepsB] at ih ⊢; exact ih (stepB y)

theorem mod_pow_succ (x j : Nat) : x % 2 ^ (j + 1) = (x % 2 ^ j) ^^^ (2 ^ j * (x / 2 ^ j % 2)) := by
  have hb : x / 2 ^ j % 2 < 2 := Nat.mod_lt _ (by decide)
  apply Nat.eq_of_testBit_eq
  intro i
  rw [Nat.testBit_xor, Nat.testBit_mod_two_pow, Nat.testBit_mod_two_pow, Nat.testBit_two_pow_mul]
  by_cases h1 : i < j
  · simp [h1, show i < j + 1 by omega, show ¬ j ≤ i by omega]
  · by_cases h2 : i = j
    · subst h2
      simp [Nat.testBit_eq_decide_div_mod_eq]
    · have h3 : ¬ i < j + 1 := by omega
      have h4 : (x / 2 ^ j % 2).testBit (i - j) = false := by
        apply Nat.testBit_lt_two_pow
        calc x / 2 ^ j % 2 < 2 ^ 1 := hb
          _ ≤ 2 ^ (i - j) := Nat.pow_le_pow_right (by decide) (by omega)
      simp [h1, h3, h4]

theorem bit_back32 : ∀ j, j < 32 → stepsB j (BitVec.ofNat 32 (2 ^ j)) = 1#32 := by decide

/-- A bit of a row of bytes. -/
def bitAt (l : List Nat) (p : Nat) : Bool := (l.getD (p / 8) 0).testBit (p % 8)
def bit1 (b : Bool) : BitVec 32 := if b then 1#32 else 0#32

/-- The register behind p bits of the row. -/
def regAt (r : BitVec 32) (l : List Nat) : Nat → BitVec 32
  | 0 => r
  | p + 1 => stepB (regAt r l p ^^^ bit1 (bitAt l p))

theorem regAt_refRun (r : Nat) (hr : r < 4294967296) (r0 : BitVec 32) (l : List Nat) (k : Nat) (h : BitVec.ofNat 32 r = regAt r0 l (8 * k)) :
    ∀ j, j ≤ 8 → BitVec.ofNat 32 (refRun r (l.getD k 0) j) = regAt r0 l (8 * k + j) := by
  intro j
  induction j with
  | zero => intro _; exact h
  | succ j ih =>
    intro hj
    have hb : l.getD k 0 / 2 ^ j % 2 < 2 := Nat.mod_lt _ (by decide)
    rw [refRun, refStep_stepB _ _ (refRun_lt r _ j hr) hb, ih (by omega)]
    rw [show 8 * k + (j + 1) = 8 * k + j + 1 by omega, regAt]
    congr 2
    unfold bitAt bit1
    rw [show (8 * k + j) / 8 = k by omega, show (8 * k + j) % 8 = j by omega, Nat.testBit_eq_decide_div_mod_eq]
    obtain h0 | h0 : l.getD k 0 / 2 ^ j % 2 = 0 ∨ l.getD k 0 / 2 ^ j % 2 = 1 := by omega
    · rw [h0]; rfl
    · rw [h0]; rfl

/-- The run of a row is the register behind all of its bits. -/
theorem runN_regAt (r : Nat) (hr : r < 4294967296) (l : List Nat) (hl : ∀ x ∈ l, x < 256) : ∀ k, k ≤ l.length → BitVec.ofNat 32 (runN r (l.take k)) = regAt (BitVec.ofNat 32 r) l (8 * k) := by
  intro k
  induction k with
  | zero => intro _; simp [runN, halvesN, regAt]
  | succ k ih =>
    intro hk
    have e : l.take (k + 1) = l.take k ++ [l.getD k 0] := by
      rw [List.take_succ_eq_append_getElem (by omega)]; congr 2; simp [List.getD, show k < l.length by omega]
    have hx : l.getD k 0 < 256 := by
      have : l.getD k 0 = l[k] := by simp [List.getD, show k < l.length by omega]
      rw [this]; exact hl _ (List.getElem_mem _)
    rw [e, runN_snoc, ← refRun_byte _ _ (runN_lt _ _ hr) hx]
    exact regAt_refRun _ (runN_lt _ _ hr) _ l k (ih (by omega)) 8 (by omega)

/-- What the registers of two rows differ by. -/
def diffAt (a b : List Nat) : Nat → BitVec 32
  | 0 => 0#32
  | p + 1 => stepB (diffAt a b p ^^^ bit1 (bitAt a p ^^ bitAt b p))

theorem regAt_diff (r : BitVec 32) (a b : List Nat) : ∀ p, regAt r a p ^^^ regAt r b p = diffAt a b p := by
  intro p
  induction p with
  | zero => simp [regAt, diffAt]
  | succ p ih =>
    simp only [regAt, diffAt]
    rw [← stepB_xor, ← ih]
    congr 1
    have : bit1 (bitAt a p ^^ bitAt b p) = bit1 (bitAt a p) ^^^ bit1 (bitAt b p) := by
      cases bitAt a p <;> cases bitAt b p <;> rfl
    rw [this]
    ac_rfl

/-- The bits differ just where the word t says, from the place s on, up to m bits. -/
def Differ (a b : List Nat) (s t m : Nat) : Prop := ∀ p, (bitAt a p ^^ bitAt b p) = (decide (s ≤ p) && decide (p < s + m) && t.testBit (p - s))

theorem diffAt_low {a b : List Nat} {s t m : Nat} (h : Differ a b s t m) : ∀ p, p ≤ s → diffAt a b p = 0#32 := by
  intro p
  induction p with
  | zero => intro _; rfl
  | succ p ih =>
    intro hp
    simp only [diffAt]
    rw [ih (by omega), h p, decide_eq_false (by omega), Bool.false_and, Bool.false_and]
    show stepB (0#32 ^^^ 0#32) = 0#32
    rw [BitVec.xor_self]; exact stepB_zero

theorem diffAt_mid {a b : List Nat} {s t m : Nat} (h : Differ a b s t m) (hm : m ≤ 32) : ∀ q, q ≤ m → diffAt a b (s + q) = stepsB q (BitVec.ofNat 32 (t % 2 ^ q)) := by
  intro q
  induction q with
  | zero => intro _; rw [Nat.add_zero, diffAt_low h s (Nat.le_refl _)]; simp [stepsB, Nat.mod_one]
  | succ q ih =>
    intro hq
    rw [show s + (q + 1) = s + q + 1 by omega, diffAt, ih (by omega), h (s + q), decide_eq_true (by omega), decide_eq_true (by omega), Bool.true_and, Bool.true_and, stepsB_snoc]
    congr 1
    rw [show s + q - s = q by omega, mod_pow_succ, BitVec.ofNat_xor, stepsB_xor]
    congr 1
    rw [Nat.testBit_eq_decide_div_mod_eq]
    obtain h0 | h0 : t / 2 ^ q % 2 = 0 ∨ t / 2 ^ q % 2 = 1 := by omega
    · rw [h0]; simp [bit1, stepsB_zero]
    · rw [h0, Nat.mul_one, bit_back32 q (by omega)]; rfl

theorem diffAt_high {a b : List Nat} {s t m : Nat} (h : Differ a b s t m) (hm : m ≤ 32) : ∀ z, diffAt a b (s + m + z) = stepsB (m + z) (BitVec.ofNat 32 (t % 2 ^ m)) := by
  intro z
  induction z with
  | zero => exact diffAt_mid h hm m (Nat.le_refl _)
  | succ z ih =>
    rw [show s + m + (z + 1) = s + m + z + 1 by omega, diffAt, ih, h (s + m + z), decide_eq_false (by omega : ¬ s + m + z < s + m), Bool.and_false, Bool.false_and]
    show stepB (_ ^^^ 0#32) = stepsB (m + z + 1) _
    rw [BitVec.xor_zero, stepsB_snoc]

/-- Two rows of one length that differ so: the sums are the same just if none of the m bits is turned. -/
theorem sum_differ {a b : List Nat} {s t m : Nat} (hl : b.length = a.length) (ha : ∀ x ∈ a, x < 256) (hb : ∀ x ∈ b, x < 256) (h : Differ a b s t m) (hm : m ≤ 32) (hs : s + m ≤ 8 * a.length) :
    extN 0 a = extN 0 b ↔ t % 2 ^ m = 0 := by
  have e1 : extN 0 a = extN 0 b ↔ runN 4294967295 a = runN 4294967295 b := by
    unfold extN
    rw [Nat.xor_zero]
    constructor
    · intro h
      have := congrArg (fun x => 4294967295 ^^^ x) h
      simpa only [not_not] using this
    · intro h; rw [h]
  have ra := runN_regAt 4294967295 (by decide) a ha a.length (Nat.le_refl _)
  have rb := runN_regAt 4294967295 (by decide) b hb b.length (Nat.le_refl _)
  rw [List.take_length] at ra rb
  rw [hl] at rb
  have hd := regAt_diff (BitVec.ofNat 32 4294967295) a b (8 * a.length)
  rw [← ra, ← rb] at hd
  have hz := diffAt_high h hm (8 * a.length - (s + m))
  rw [show s + m + (8 * a.length - (s + m)) = 8 * a.length by omega] at hz
  rw [hz] at hd
  have la := runN_lt 4294967295 a (by decide)
  have lb := runN_lt 4294967295 b (by decide)
  have lt : t % 2 ^ m < 4294967296 := Nat.lt_of_lt_of_le (Nat.mod_lt _ (Nat.two_pow_pos m)) (Nat.pow_le_pow_right (n := 2) (by decide) hm)
  rw [e1]
  constructor
  · intro h
    rw [h, BitVec.xor_self] at hd
    have := congrArg BitVec.toNat (stepsB_eq_zero _ _ hd.symm)
    rw [BitVec.toNat_ofNat, Nat.mod_eq_of_lt (by omega)] at this
    simpa using this
  · intro h
    rw [h, show BitVec.ofNat 32 0 = 0#32 from rfl, stepsB_zero] at hd
    have heq : BitVec.ofNat 32 (runN 4294967295 a) = BitVec.ofNat 32 (runN 4294967295 b) := by
      have := congrArg (· ^^^ BitVec.ofNat 32 (runN 4294967295 b)) hd
      simpa [BitVec.xor_assoc] using this
    have := congrArg BitVec.toNat heq
    rw [BitVec.toNat_ofNat, BitVec.toNat_ofNat, Nat.mod_eq_of_lt (by omega), Nat.mod_eq_of_lt (by omega)] at this
    exact this

/-- The row behind k rounds of the law's loop. -/
def flipN (b : List Nat) (s t : Nat) : Nat → List Nat
  | 0 => b
  | k + 1 => if t / 2 ^ k % 2 = 1 then (flipN b s t k).set ((s + k) / 8) ((flipN b s t k).getD ((s + k) / 8) 0 ^^^ 2 ^ ((s + k) % 8)) else flipN b s t k

theorem flipN_length (b : List Nat) (s t : Nat) : ∀ k, (flipN b s t k).length = b.length := by
  intro k
  induction k with
  | zero => rfl
  | succ k ih => unfold flipN; split <;> simp [ih]

theorem flipN_lt (b : List Nat) (s t : Nat) (h : ∀ x ∈ b, x < 256) : ∀ k, ∀ x ∈ flipN b s t k, x < 256 := by
  intro k
  induction k with
  | zero => exact h
  | succ k ih =>
    intro x hx
    unfold flipN at hx
    split at hx
    · rcases List.mem_or_eq_of_mem_set hx with h1 | rfl
      · exact ih x h1
      · have h1 : (flipN b s t k).getD ((s + k) / 8) 0 < 256 := by
          by_cases hk : (s + k) / 8 < (flipN b s t k).length
          · have : (flipN b s t k).getD ((s + k) / 8) 0 = (flipN b s t k)[(s + k) / 8] := by simp [List.getD, hk]
            rw [this]; exact ih _ (List.getElem_mem _)
          · have : (flipN b s t k).getD ((s + k) / 8) 0 = 0 := by simp [List.getD, List.getElem?_eq_none (show (flipN b s t k).length ≤ (s + k) / 8 by omega)]
            omega
        have h2 : 2 ^ ((s + k) % 8) < 256 := Nat.lt_of_le_of_lt (Nat.pow_le_pow_right (n := 2) (by decide) (show (s + k) % 8 ≤ 7 by omega)) (by decide)
        exact xor_lt8 h1 h2
    · exact ih x hx

theorem flipN_differ (b : List Nat) (s t : Nat) : ∀ k, s + k ≤ 8 * b.length → Differ b (flipN b s t k) s t k := by
  intro k
  induction k with
  | zero =>
    intro _ p
    by_cases h : s ≤ p
    · rw [decide_eq_false (by omega : ¬ p < s + 0)]; simp [flipN]
    · rw [decide_eq_false h]; simp [flipN]
  | succ k ih =>
    intro hk p
    have ihp := ih (by omega) p
    have hlen := flipN_length b s t k
    unfold flipN
    have hbit : t.testBit k = decide (t / 2 ^ k % 2 = 1) := Nat.testBit_eq_decide_div_mod_eq
    by_cases hp : p = s + k
    · have e : s + k - s = k := by omega
      rw [hp] at ihp ⊢
      rw [decide_eq_false (by omega : ¬ s + k < s + k), Bool.and_false, Bool.false_and] at ihp
      rw [decide_eq_true (by omega : s ≤ s + k), decide_eq_true (by omega : s + k < s + (k + 1)), e, hbit]
      by_cases h1 : t / 2 ^ k % 2 = 1
      · rw [if_pos h1, decide_eq_true h1]
        have hin : (s + k) / 8 < (flipN b s t k).length := by rw [hlen]; omega
        have hb : bitAt ((flipN b s t k).set ((s + k) / 8) ((flipN b s t k).getD ((s + k) / 8) 0 ^^^ 2 ^ ((s + k) % 8))) (s + k) = !bitAt (flipN b s t k) (s + k) := by
          unfold bitAt
          have e2 : ((flipN b s t k).set ((s + k) / 8) ((flipN b s t k).getD ((s + k) / 8) 0 ^^^ 2 ^ ((s + k) % 8))).getD ((s + k) / 8) 0 = (flipN b s t k).getD ((s + k) / 8) 0 ^^^ 2 ^ ((s + k) % 8) := by
            simp [List.getD, hin]
          rw [e2, Nat.testBit_xor, Nat.testBit_two_pow_self, Bool.xor_true]
        rw [hb]
        cases h3 : bitAt b (s + k) <;> cases h4 : bitAt (flipN b s t k) (s + k) <;> simp_all
      · rw [if_neg h1, decide_eq_false h1, ihp]; rfl
    · have e : (decide (s ≤ p) && decide (p < s + (k + 1)) && t.testBit (p - s)) = (decide (s ≤ p) && decide (p < s + k) && t.testBit (p - s)) := by
        congr 2
        rw [decide_eq_decide]; omega
      rw [e, ← ihp]
      by_cases h1 : t / 2 ^ k % 2 = 1
      · rw [if_pos h1]
        congr 1
        unfold bitAt
        by_cases h5 : p / 8 = (s + k) / 8
        · have h6 : p % 8 ≠ (s + k) % 8 := by omega
          rw [h5]
          have hin : (s + k) / 8 < (flipN b s t k).length := by rw [hlen]; omega
          have e2 : ((flipN b s t k).set ((s + k) / 8) ((flipN b s t k).getD ((s + k) / 8) 0 ^^^ 2 ^ ((s + k) % 8))).getD ((s + k) / 8) 0 = (flipN b s t k).getD ((s + k) / 8) 0 ^^^ 2 ^ ((s + k) % 8) := by
            simp [List.getD, hin]
          rw [e2, Nat.testBit_xor, Nat.testBit_two_pow_of_ne (Ne.symm h6), Bool.xor_false]
        · have e2 : ((flipN b s t k).set ((s + k) / 8) ((flipN b s t k).getD ((s + k) / 8) 0 ^^^ 2 ^ ((s + k) % 8))).getD (p / 8) 0 = (flipN b s t k).getD (p / 8) 0 := by
            simp [List.getD, Ne.symm h5]
          rw [e2]
      · rw [if_neg h1]

end Go.Proofs.YtmflcpkkeejjpaaDoor.Crc
