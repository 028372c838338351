/-
  Put together out of texts of one chain: what they hold stands ahead of each.
-/
import Derived.RangeFuncNested
import Derived.RangeFuncBound
import Derived.RangeFuncCalls
import Derived.RangeFuncLeaves
import Derived.RangeFuncBox
import Derived.RangeFuncFrom
import Derived.Shelf.Abstract
import Derived.Shelf.RegionOpen
import Derived.WalkKit
import Derived.OwnWalkIn
import Derived.TacticsInMore
import Derived.LoopNIn
import Derived.LoopIn
import Derived.Laws.BitsAllLaws
import Derived.Lib.Hide
import Derived.Test.YtnhkpemajknfnaaGreatDoorLaw
import Derived.Test.YtnhkpemajknfnaaGreatDoorChecked
/-
  Plain facts on CRC-32C over natural numbers: the half-byte step is four bit steps, the sum is linear, a change within 32 bits never gives the same sum. No program is imported.
-/
namespace Go.Proofs.YtnhkpemajknfnaaGreatDoor.Crc

/-- One bit step of the register. -/
def stepB (x : BitVec 32) : BitVec 32 := (x >>> 1) ^^^ (if x.getLsbD 0 then 0x82f63b78#32 else 0#32)

theorem stepB_xor (x y : BitVec 32) : stepB (x ^^^ y) = stepB x ^^^ stepB y := by
  unfold stepB
  apply BitVec.eq_of_getLsbD_eq
  intro i hi
  simp only [BitVec.getLsbD_xor, BitVec.getLsbD_ushiftRight]
  cases x.getLsbD 0 <;> cases y.getLsbD 0 <;> simp
  all_goals (cases x.getLsbD (1 + i) <;> cases y.getLsbD (1 + i) <;> simp)

theorem stepB_zero : stepB 0#32 = 0#32 := by decide

theorem stepB_even (x : BitVec 32) (h : x.getLsbD 0 = false) : stepB x = x >>> 1 := by
  unfold stepB; rw [h]; simp

theorem stepB_eq_zero (x : BitVec 32) (h : stepB x = 0#32) : x = 0#32 := by
  have h31 : (stepB x).getLsbD 31 = false := by rw [h]; simp
  have hx : x.getLsbD 0 = false := by
    cases hc : x.getLsbD 0 with
    | false => rfl
    | true =>
      unfold stepB at h31
      rw [hc] at h31
      simp at h31
  rw [stepB_even x hx] at h
  apply BitVec.eq_of_getLsbD_eq
  intro i hi
  cases i with
  | zero => rw [hx]; simp
  | succ i =>
    have := congrArg (fun y : BitVec 32 => y.getLsbD i) h
    simp only [BitVec.getLsbD_ushiftRight] at this
    rw [show 1 + i = i + 1 by omega] at this
    rw [this]; simp

/-- n bit steps. -/
def stepsB : Nat → BitVec 32 → BitVec 32
  | 0, x => x
  | n + 1, x => stepsB n (stepB x)

theorem stepsB_xor (n : Nat) (x y : BitVec 32) : stepsB n (x ^^^ y) = stepsB n x ^^^ stepsB n y := by
  induction n generalizing x y with
  | zero => rfl
  | succ n ih => simp only [stepsB]; rw [stepB_xor, ih]

theorem stepsB_zero (n : Nat) : stepsB n 0#32 = 0#32 := by
  induction n with
  | zero => rfl
  | succ n ih => simp only [stepsB]; rw [stepB_zero, ih]

theorem stepsB_eq_zero (n : Nat) (x : BitVec 32) (h : stepsB n x = 0#32) : x = 0#32 := by
  induction n generalizing x with
  | zero => exact h
  | succ n ih => exact stepB_eq_zero x (ih _ h)

theorem stepsB_add (m n : Nat) (x : BitVec 32) : stepsB (m + n) x = stepsB n (stepsB m x) := by
  induction m generalizing x with
  | zero => simp [stepsB]
  | succ m ih => rw [show m + 1 + n = (m + n) + 1 by omega]; simp only [stepsB]; exact ih _

/-- The table of the sixteen halves. -/
def tabN : List Nat := [0, 274646895, 549293790, 820201905, 1098587580, 1361435347, 1640403810, 1905808397, 2197175160, 2460548119, 2722870694, 2987750089, 3280807620, 3553878443, 3811616794, 4084100981]

theorem tabN_length : tabN.length = 16 := rfl
theorem tabN_lt (k : Nat) : tabN.getD k 0 < 4294967296 := by
  by_cases h : k < 16
  · have : ∀ k, k < 16 → tabN.getD k 0 < 4294967296 := by decide
    exact this k h
  · rw [List.getD, List.getElem?_eq_none (by rw [tabN_length]; omega)]; decide

theorem tab_steps : ∀ k : Nat, k < 16 → stepsB 4 (BitVec.ofNat 32 k) = BitVec.ofNat 32 (tabN.getD k 0) := by decide

/-- The half-byte step on natural numbers. -/
def nibN (r h : Nat) : Nat := (r / 16) ^^^ (tabN.getD ((r ^^^ h) % 16) 0)

theorem nibN_lt (r h : Nat) (hr : r < 4294967296) : nibN r h < 4294967296 := by
  unfold nibN
  exact Nat.xor_lt_two_pow (n := 32) (by omega) (tabN_lt _)

/-- The half-byte step is four bit steps. -/
theorem nibN_steps (r h : Nat) (hr : r < 4294967296) (hh : h < 16) : BitVec.ofNat 32 (nibN r h) = stepsB 4 (BitVec.ofNat 32 r ^^^ BitVec.ofNat 32 h) := by
  have split : ∀ x : BitVec 32, stepsB 4 x = (x >>> 4) ^^^ stepsB 4 (x &&& 15#32) := by
    intro x
    have h15 : ∀ i, i < 32 → (15#32).getLsbD i = decide (i < 4) := by decide
    have hn15 : ∀ i, i < 32 → (4294967280#32).getLsbD i = decide (4 ≤ i) := by decide
    have e : x = (x &&& 4294967280#32) ^^^ (x &&& 15#32) := by
      apply BitVec.eq_of_getLsbD_eq
      intro i hi
      rw [BitVec.getLsbD_xor, BitVec.getLsbD_and, BitVec.getLsbD_and, h15 i hi, hn15 i hi]
      by_cases hi4 : i < 4
      · rw [decide_eq_false (by omega : ¬ 4 ≤ i), decide_eq_true hi4]; simp
      · rw [decide_eq_true (by omega : 4 ≤ i), decide_eq_false hi4]; simp
    have sh : ∀ (y : BitVec 32) (a : Nat), (y >>> a) >>> 1 = y >>> (a + 1) := by
      intro y a
      apply BitVec.eq_of_getLsbD_eq
      intro i hi
      simp only [BitVec.getLsbD_ushiftRight]
      rw [show a + (1 + i) = a + 1 + i by omega]
    have hs : stepsB 4 (x &&& 4294967280#32) = x >>> 4 := by
      have hz : ∀ k, k < 4 → ((x &&& 4294967280#32) >>> k).getLsbD 0 = false := by
        intro k hk
        rw [BitVec.getLsbD_ushiftRight, BitVec.getLsbD_and, hn15 (k + 0) (by omega), decide_eq_false (by omega), Bool.and_false]
      have s0 := stepB_even _ (hz 0 (by decide))
      simp only [BitVec.ushiftRight_zero] at s0
      have s1 := stepB_even _ (hz 1 (by decide))
      have s2 := stepB_even _ (hz 2 (by decide))
      have s3 := stepB_even _ (hz 3 (by decide))
      rw [sh] at s1 s2 s3
      simp only [stepsB]
      rw [s0, s1, s2, s3]
      apply BitVec.eq_of_getLsbD_eq
      intro i hi
      rw [BitVec.getLsbD_ushiftRight, BitVec.getLsbD_ushiftRight, BitVec.getLsbD_and]
      by_cases h28 : i < 28
      · rw [hn15 _ (by omega), decide_eq_true (by omega), Bool.and_true]
      · rw [BitVec.getLsbD_of_ge x _ (by omega), Bool.false_and]
    have := congrArg (stepsB 4) e
    rw [stepsB_xor, hs] at this
    exact this
  rw [split]
  have e1 : (BitVec.ofNat 32 r ^^^ BitVec.ofNat 32 h) = BitVec.ofNat 32 (r ^^^ h) := by
    rw [← BitVec.ofNat_xor]
  have hx : r ^^^ h < 4294967296 := Nat.xor_lt_two_pow (n := 32) (by omega) (by omega)
  have e2 : BitVec.ofNat 32 (r ^^^ h) &&& 15#32 = BitVec.ofNat 32 ((r ^^^ h) % 16) := by
    apply BitVec.eq_of_toNat_eq
    rw [BitVec.toNat_and, BitVec.toNat_ofNat, BitVec.toNat_ofNat, BitVec.toNat_ofNat]
    rw [Nat.mod_eq_of_lt (a := r ^^^ h) (by omega), Nat.mod_eq_of_lt (a := 15) (by omega), Nat.mod_eq_of_lt (a := (r ^^^ h) % 16) (by omega)]
    exact Nat.and_two_pow_sub_one_eq_mod _ 4
  have e3 : BitVec.ofNat 32 (r ^^^ h) >>> 4 = BitVec.ofNat 32 (r / 16) := by
    apply BitVec.eq_of_toNat_eq
    rw [BitVec.toNat_ushiftRight, BitVec.toNat_ofNat, BitVec.toNat_ofNat, Nat.mod_eq_of_lt (a := r ^^^ h) (by omega), Nat.mod_eq_of_lt (a := r / 16) (by omega)]
    rw [Nat.shiftRight_xor_distrib, Nat.shiftRight_eq_div_pow, Nat.shiftRight_eq_div_pow, show (2 : Nat) ^ 4 = 16 from rfl, Nat.div_eq_of_lt (a := h) hh, Nat.xor_zero]
  rw [e1, e2, e3, tab_steps _ (Nat.mod_lt _ (by decide)), ← BitVec.ofNat_xor]
  rfl

/-- The halves of bytes, the lower one first. -/
def halvesN (bs : List Nat) : List Nat := bs.flatMap fun x => [x % 16, x / 16]
theorem halvesN_nil : halvesN [] = [] := rfl
theorem halvesN_cons (x : Nat) (bs : List Nat) : halvesN (x :: bs) = x % 16 :: x / 16 :: halvesN bs := rfl
theorem halvesN_append (a b : List Nat) : halvesN (a ++ b) = halvesN a ++ halvesN b := by simp [halvesN]
theorem halvesN_length (bs : List Nat) : (halvesN bs).length = 2 * bs.length := by
  induction bs with
  | nil => rfl
  | cons x bs ih => rw [halvesN_cons]; simp [ih]; omega
theorem halvesN_snoc (bs : List Nat) (x : Nat) : halvesN (bs ++ [x]) = halvesN bs ++ [x % 16] ++ [x / 16] := by
  rw [halvesN_append]; simp [halvesN]

/-- The register behind bytes. -/
def runN (r : Nat) (bs : List Nat) : Nat := (halvesN bs).foldl nibN r
/-- The sum with more bytes behind. -/
def extN (s : Nat) (bs : List Nat) : Nat := 4294967295 ^^^ runN (4294967295 ^^^ s) bs

theorem foldl_nibN_lt (r : Nat) (hs : List Nat) (hr : r < 4294967296) : hs.foldl nibN r < 4294967296 := by
  induction hs generalizing r with
  | nil => exact hr
  | cons h hs ih => exact ih _ (nibN_lt r h hr)
theorem runN_lt (r : Nat) (bs : List Nat) (hr : r < 4294967296) : runN r bs < 4294967296 := foldl_nibN_lt r _ hr
theorem not_lt (s : Nat) (hs : s < 4294967296) : 4294967295 ^^^ s < 4294967296 := Nat.xor_lt_two_pow (n := 32) (by decide) hs
theorem extN_lt (s : Nat) (bs : List Nat) (hs : s < 4294967296) : extN s bs < 4294967296 := not_lt _ (runN_lt _ _ (not_lt _ hs))
theorem not_not (s : Nat) : 4294967295 ^^^ (4294967295 ^^^ s) = s := by rw [← Nat.xor_assoc, Nat.xor_self, Nat.zero_xor]

theorem extN_append (s : Nat) (a b : List Nat) : extN s (a ++ b) = extN (extN s a) b := by
  unfold extN
  rw [not_not]
  unfold runN
  rw [halvesN_append, List.foldl_append]
theorem extN_nil (s : Nat) : extN s [] = s := by
  unfold extN runN halvesN; simp [not_not]

/-! ### the register as bits -/

/-- A byte's run is eight bit steps. -/
theorem run_byte (r x : Nat) (hr : r < 4294967296) (hx : x < 256) : BitVec.ofNat 32 (nibN (nibN r (x % 16)) (x / 16)) = stepsB 8 (BitVec.ofNat 32 r ^^^ BitVec.ofNat 32 x) := by
  rw [nibN_steps _ _ (nibN_lt _ _ hr) (by omega), nibN_steps _ _ hr (by omega)]
  have e : BitVec.ofNat 32 x = BitVec.ofNat 32 (x % 16) ^^^ (BitVec.ofNat 32 (16 * (x / 16))) := by
    rw [← BitVec.ofNat_xor]
    congr 1
    have a : ∀ p, p < 16 → ∀ q, q < 16 → 16 * q + p = p ^^^ 16 * q := by decide
    rw [← a (x % 16) (by omega) (x / 16) (by omega)]
    omega
  have e4 : stepsB 4 (BitVec.ofNat 32 (16 * (x / 16))) = BitVec.ofNat 32 (x / 16) := by
    have : ∀ y, y < 16 → stepsB 4 (BitVec.ofNat 32 (16 * y)) = BitVec.ofNat 32 y := by decide
    exact this _ (by omega)
  rw [show (8 : Nat) = 4 + 4 from rfl, stepsB_add, e, ← BitVec.xor_assoc, stepsB_xor 4 (_ ^^^ _), e4]

theorem runN_cons (r x : Nat) (bs : List Nat) : runN r (x :: bs) = runN (nibN (nibN r (x % 16)) (x / 16)) bs := by
  unfold runN; rw [halvesN_cons]; rfl

/-- Linear: the register of three rows of bytes, mixed. -/
theorem runN_mix : ∀ (a b c : List Nat) (ra rb rc : Nat), ra < 4294967296 → rb < 4294967296 → rc < 4294967296 → a.length = b.length → b.length = c.length →
    (∀ x ∈ a, x < 256) → (∀ x ∈ b, x < 256) → (∀ x ∈ c, x < 256) →
    runN (ra ^^^ rb ^^^ rc) (List.zipWith (fun x y => x ^^^ y) (List.zipWith (fun x y => x ^^^ y) a b) c) = runN ra a ^^^ runN rb b ^^^ runN rc c
  | [], [], [], ra, rb, rc, _, _, _, _, _, _, _, _ => by simp [runN, halvesN]
  | x :: a, y :: b, z :: c, ra, rb, rc, ha, hb, hc, h1, h2, hx, hy, hz => by
    have lx := hx x (by simp)
    have ly := hy y (by simp)
    have lz := hz z (by simp)
    have lxyz : x ^^^ y ^^^ z < 256 := Nat.xor_lt_two_pow (n := 8) (Nat.xor_lt_two_pow (n := 8) lx ly) lz
    have ezip : runN (ra ^^^ rb ^^^ rc) (List.zipWith (fun x y => x ^^^ y) (List.zipWith (fun x y => x ^^^ y) (x :: a) (y :: b)) (z :: c)) = runN (nibN (nibN (ra ^^^ rb ^^^ rc) ((x ^^^ y ^^^ z) % 16)) ((x ^^^ y ^^^ z) / 16)) (List.zipWith (fun x y => x ^^^ y) (List.zipWith (fun x y => x ^^^ y) a b) c) := runN_cons _ _ _
    have lr : ra ^^^ rb ^^^ rc < 4294967296 := Nat.xor_lt_two_pow (n := 32) (Nat.xor_lt_two_pow (n := 32) ha hb) hc
    rw [ezip, runN_cons, runN_cons, runN_cons]
    have e : nibN (nibN (ra ^^^ rb ^^^ rc) ((x ^^^ y ^^^ z) % 16)) ((x ^^^ y ^^^ z) / 16) = nibN (nibN ra (x % 16)) (x / 16) ^^^ nibN (nibN rb (y % 16)) (y / 16) ^^^ nibN (nibN rc (z % 16)) (z / 16) := by
      have l1 := nibN_lt _ (x / 16) (nibN_lt ra (x % 16) ha)
      have l2 := nibN_lt _ (y / 16) (nibN_lt rb (y % 16) hb)
      have l3 := nibN_lt _ (z / 16) (nibN_lt rc (z % 16) hc)
      have l4 := nibN_lt _ ((x ^^^ y ^^^ z) / 16) (nibN_lt (ra ^^^ rb ^^^ rc) ((x ^^^ y ^^^ z) % 16) lr)
      have l5 := Nat.xor_lt_two_pow (n := 32) (Nat.xor_lt_two_pow (n := 32) l1 l2) l3
      have hbv : BitVec.ofNat 32 (nibN (nibN (ra ^^^ rb ^^^ rc) ((x ^^^ y ^^^ z) % 16)) ((x ^^^ y ^^^ z) / 16)) = BitVec.ofNat 32 (nibN (nibN ra (x % 16)) (x / 16) ^^^ nibN (nibN rb (y % 16)) (y / 16) ^^^ nibN (nibN rc (z % 16)) (z / 16)) := by
        rw [run_byte _ _ lr lxyz, BitVec.ofNat_xor, BitVec.ofNat_xor, BitVec.ofNat_xor, BitVec.ofNat_xor, BitVec.ofNat_xor, BitVec.ofNat_xor, run_byte _ _ ha lx, run_byte _ _ hb ly, run_byte _ _ hc lz, ← stepsB_xor, ← stepsB_xor]
        congr 1
        ac_rfl
      have := congrArg BitVec.toNat hbv
      rw [BitVec.toNat_ofNat, BitVec.toNat_ofNat, Nat.mod_eq_of_lt l4, Nat.mod_eq_of_lt l5] at this
      exact this
    rw [e]
    exact runN_mix a b c _ _ _ (nibN_lt _ _ (nibN_lt _ _ ha)) (nibN_lt _ _ (nibN_lt _ _ hb)) (nibN_lt _ _ (nibN_lt _ _ hc)) (by simpa using h1) (by simpa using h2)
      (fun t ht => hx t (by simp [ht])) (fun t ht => hy t (by simp [ht])) (fun t ht => hz t (by simp [ht]))

/-! ### bit by bit, as the document says -/

/-- One step of the document's: t is the register's lowest bit and b, different or not. -/
def refStep (r b : Nat) : Nat := if (r % 2) ^^^ b = 1 then (r / 2) ^^^ 2197175160 else r / 2
/-- The register behind j bits of the byte x. -/
def refRun (r x : Nat) : Nat → Nat
  | 0 => r
  | j + 1 => refStep (refRun r x j) (x / 2 ^ j % 2)

theorem refStep_lt (r b : Nat) (hr : r < 4294967296) : refStep r b < 4294967296 := by
  unfold refStep; split
  · exact Nat.xor_lt_two_pow (n := 32) (by omega) (by decide)
  · omega
theorem refRun_lt (r x j : Nat) (hr : r < 4294967296) : refRun r x j < 4294967296 := by
  induction j with
  | zero => exact hr
  | succ j ih => exact refStep_lt _ _ ih

theorem refStep_stepB (r b : Nat) (hr : r < 4294967296) (hb : b < 2) : BitVec.ofNat 32 (refStep r b) = stepB (BitVec.ofNat 32 r ^^^ BitVec.ofNat 32 b) := by
  have hx : r ^^^ b < 4294967296 := Nat.xor_lt_two_pow (n := 32) (by omega) (by omega)
  have hl : (BitVec.ofNat 32 (r ^^^ b)).getLsbD 0 = decide ((r % 2) ^^^ b = 1) := by
    rw [BitVec.getLsbD_ofNat]
    have : (r ^^^ b) % 2 = (r % 2) ^^^ b := by
      rw [Nat.xor_mod_two_pow (n := 1) (a := r) (b := b), Nat.mod_eq_of_lt (a := b) (by omega)]
    rw [Nat.testBit_zero, this]
    simp
  have hs : BitVec.ofNat 32 (r ^^^ b) >>> 1 = BitVec.ofNat 32 (r / 2) := by
    apply BitVec.eq_of_toNat_eq
    rw [BitVec.toNat_ushiftRight, BitVec.toNat_ofNat, BitVec.toNat_ofNat, Nat.mod_eq_of_lt (a := r ^^^ b) (by omega), Nat.mod_eq_of_lt (a := r / 2) (by omega)]
    rw [Nat.shiftRight_xor_distrib, Nat.shiftRight_eq_div_pow, Nat.shiftRight_eq_div_pow, show (2 : Nat) ^ 1 = 2 from rfl, Nat.div_eq_of_lt (a := b) hb, Nat.xor_zero]
  rw [← BitVec.ofNat_xor]
  unfold stepB refStep
  rw [hl, hs]
  by_cases h : (r % 2) ^^^ b = 1
  · rw [if_pos h, decide_eq_true h, if_pos rfl, BitVec.ofNat_xor]
  · rw [if_neg h, decide_eq_false h]; simp

theorem bit_back : ∀ j, j < 8 → stepsB j (BitVec.ofNat 32 (2 ^ j)) = 1#32 := by decide

theorem refRun_steps (r x : Nat) (hr : r < 4294967296) : ∀ j, j ≤ 8 → BitVec.ofNat 32 (refRun r x j) = stepsB j (BitVec.ofNat 32 r ^^^ BitVec.ofNat 32 (x % 2 ^ j)) := by
  have snoc : ∀ j (y : BitVec 32), stepsB (j + 1) y = stepB (stepsB j y) := by
    intro j
    induction j with
    | zero => intro y; rfl
    | succ j ih => intro y; simp only [stepsB] at ih ⊢; exact ih (stepB y)
  intro j
  induction j with
  | zero => intro _; simp [refRun, stepsB, Nat.mod_one]
  | succ j ih =>
    intro hj
    have hb : x / 2 ^ j % 2 < 2 := Nat.mod_lt _ (by decide)
    rw [refRun, refStep_stepB _ _ (refRun_lt r x j hr) hb, ih (by omega), snoc]
    congr 1
    have hm : x % 2 ^ (j + 1) = (x % 2 ^ j) ^^^ (2 ^ j * (x / 2 ^ j % 2)) := by
      apply Nat.eq_of_testBit_eq
      intro i
      rw [Nat.testBit_xor, Nat.testBit_mod_two_pow, Nat.testBit_mod_two_pow, Nat.testBit_two_pow_mul]
      by_cases h1 : i < j
      · simp [h1, show i < j + 1 by omega, show ¬ j ≤ i by omega]
      · by_cases h2 : i = j
        · subst h2
          simp [Nat.testBit_eq_decide_div_mod_eq]
        · have h3 : ¬ i < j + 1 := by omega
          have h4 : (x / 2 ^ j % 2).testBit (i - j) = false := by
            apply Nat.testBit_lt_two_pow
            calc x / 2 ^ j % 2 < 2 ^ 1 := hb
              _ ≤ 2 ^ (i - j) := Nat.pow_le_pow_right (by decide) (by omega)
          simp [h1, h3, h4]
    rw [hm, BitVec.ofNat_xor, ← BitVec.xor_assoc, stepsB_xor j (_ ^^^ _)]
    congr 1
    obtain h | h : x / 2 ^ j % 2 = 0 ∨ x / 2 ^ j % 2 = 1 := by omega
    · rw [h]; simp [stepsB_zero]
    · rw [h, Nat.mul_one, bit_back j (by omega)]

/-- Eight bits make the two halves' steps. -/
theorem refRun_byte (r x : Nat) (hr : r < 4294967296) (hx : x < 256) : refRun r x 8 = nibN (nibN r (x % 16)) (x / 16) := by
  have h := refRun_steps r x hr 8 (by omega)
  rw [show x % 2 ^ 8 = x from Nat.mod_eq_of_lt hx, ← run_byte r x hr hx] at h
  have := congrArg BitVec.toNat h
  rw [BitVec.toNat_ofNat, BitVec.toNat_ofNat, Nat.mod_eq_of_lt (refRun_lt r x 8 hr), Nat.mod_eq_of_lt (nibN_lt _ _ (nibN_lt _ _ hr))] at this
  exact this
theorem runN_snoc (r x : Nat) (bs : List Nat) : runN r (bs ++ [x]) = nibN (nibN (runN r bs) (x % 16)) (x / 16) := by
  unfold runN; rw [halvesN_append, List.foldl_append]; rfl

/-! ### three rows, mixed -/

def mixN (a b c : List Nat) (k : Nat) : List Nat := (List.range k).map fun j => a.getD j 0 ^^^ b.getD j 0 ^^^ c.getD j 0
theorem mixN_succ (a b c : List Nat) (k : Nat) : mixN a b c (k + 1) = mixN a b c k ++ [a.getD k 0 ^^^ b.getD k 0 ^^^ c.getD k 0] := by simp [mixN, List.range_succ]
theorem mixN_length (a b c : List Nat) (k : Nat) : (mixN a b c k).length = k := by simp [mixN]
theorem mixN_zip (a b c : List Nat) (k : Nat) (ha : k ≤ a.length) (hb : k ≤ b.length) (hc : k ≤ c.length) :
    mixN a b c k = List.zipWith (fun x y => x ^^^ y) (List.zipWith (fun x y => x ^^^ y) (a.take k) (b.take k)) (c.take k) := by
  apply List.ext_getElem
  · simp [mixN]; omega
  · intro i h1 h2
    have hi : i < k := by simpa [mixN] using h1
    simp [mixN, List.getD, show i < a.length by omega, show i < b.length by omega, show i < c.length by omega]

theorem extN_mix (a b c : List Nat) (k : Nat) (ha : k ≤ a.length) (hb : k ≤ b.length) (hc : k ≤ c.length) (xa : ∀ x ∈ a, x < 256) (xb : ∀ x ∈ b, x < 256) (xc : ∀ x ∈ c, x < 256) :
    extN 0 (mixN a b c k) = extN 0 (a.take k) ^^^ extN 0 (b.take k) ^^^ extN 0 (c.take k) := by
  have h := runN_mix (a.take k) (b.take k) (c.take k) 4294967295 4294967295 4294967295 (by decide) (by decide) (by decide) (by simp; omega) (by simp; omega)
    (fun x hx => xa x (List.mem_of_mem_take hx)) (fun x hx => xb x (List.mem_of_mem_take hx)) (fun x hx => xc x (List.mem_of_mem_take hx))
  rw [← mixN_zip a b c k ha hb hc, show (4294967295 : Nat) ^^^ 4294967295 ^^^ 4294967295 = 4294967295 from by decide] at h
  unfold extN
  rw [Nat.xor_zero, h]
  generalize runN 4294967295 (a.take k) = A
  generalize runN 4294967295 (b.take k) = B
  generalize runN 4294967295 (c.take k) = C
  generalize (4294967295 : Nat) = F
  calc F ^^^ (A ^^^ B ^^^ C) = (F ^^^ F) ^^^ (F ^^^ A ^^^ B ^^^ C) := by rw [Nat.xor_self, Nat.zero_xor]; ac_rfl
    _ = F ^^^ A ^^^ (F ^^^ B) ^^^ (F ^^^ C) := by ac_rfl

theorem xor_lt8 {x y : Nat} (hx : x < 256) (hy : y < 256) : x ^^^ y < 256 := Nat.xor_lt_two_pow (n := 8) hx hy
theorem xor_lt32 {x y : Nat} (hx : x < 4294967296) (hy : y < 4294967296) : x ^^^ y < 4294967296 := Nat.xor_lt_two_pow (n := 32) hx hy

end Go.Proofs.YtnhkpemajknfnaaGreatDoor.Crc

/-
  Contracts of the project's package crc: the iterator over the halves of bytes tells them in their order, the lower one first.
-/
namespace Go.Proofs.YtnhkpemajknfnaaGreatDoor.Crc
open Go.RowKit Go.Shelf Go.Proofs.YtnhkpemajknfnaaGreatDoor.Law

attribute [local go_sem] Oper.semAt_some

/-- The table's cells lie as the program's text lays them. -/
def Tab (W : World) : Prop := ∀ k, k < 16 → W.cell? ⟨0, k, none⟩ = some (.int .u32 (tabN.getD k 0 : Nat))

theorem getD_take (bs : List Nat) (k : Nat) (h : k < bs.length) : bs.take (k + 1) = bs.take k ++ [bs.getD k 0] := by
  rw [List.take_succ_eq_append_getElem h]; congr 2; simp [List.getD, h]

set_option maxRecDepth 100000 in
set_option maxHeartbeats 2000000 in
theorem halves1_in (n : Nat) (hn : 1 ≤ n) (l Bs n₀ b off len cap : Nat) (bs : List Nat) (hlen : bs.length = len) (hreach : len ≤ 140737488351232) (hlt256 : ∀ x ∈ bs, x < 256) (hb : b < n₀) (J Jx : List Nat → World → Prop)
    (hY : ∀ (pre : List Nat) (x : { x : Nat // x < 16 }) (W : World), J pre W → pre.length < 2 * len → YieldAt Fence.wide (n - 1) Tryz.prog l #[.int .u32 (x.1 : Nat)] W fun e W' =>
      (e = .returned (.bool true) ∧ J (pre ++ [x.1]) W' ∧ Below n₀ W W') ∨ (e = .returned (.bool false) ∧ Jx (pre ++ [x.1]) W'))
    (W : World) (hBs : W.cell? ⟨Bs, 0, none⟩ = some (.slice (some ⟨b, off, none⟩) len cap)) (hc : ∀ j, j < len → W.cell? ⟨b, off + j, none⟩ = some (.int .u8 (bs.getD j 0 : Nat))) (h0 : J [] W) :
    CallsIn Fence.wide n Tryz.prog 122 #[.func (.yield l) #[] #[], .pointer (some ⟨Bs, 0, none⟩)] W fun e W' => (∃ v, e = .returned v) ∧
      ((∃ ys, ys = halvesN bs ∧ J ys W') ∨ (∃ pre, True ∧ Jx pre W')) := by
  refine callsIn_of_wp Tryz.func122 rfl trivial ?_ rfl
  simp only [Tryz.ntmps122, List.size_toArray, List.length_cons, List.length_nil, Nat.reduceAdd, Nat.reduceSub, Array.replicate_succ, Array.replicate_zero, List.push_toArray, List.append_toArray, List.nil_append, List.cons_append]
  gi_wp2
  gi_loopw [7] (fun i wr => ∃ k : Nat, k ≤ len ∧ i = .int .i64 k ∧ J (halvesN (bs.take k)) wr ∧ Below n₀ W wr)
    (fun i _ => len - (intOf i).toNat)
  case atStart => exact ⟨0, Nat.zero_le _, rfl, h0, Below.refl _ _⟩
  case round =>
    obtain ⟨k, hk, rfl, hJs, hnx⟩ := hrel
    have hcx : k < len → wr.cell? ⟨b, off + k, none⟩ = some (.int .u8 (bs.getD k 0 : Nat)) := fun h => (hnx.cell (p := ⟨b, off + k, none⟩) hb).trans (hc k h)
    by_cases hlt : k < len
    · have hx256 : bs.getD k 0 < 256 := by
        have : bs.getD k 0 = bs[k]'(by omega) := by simp [List.getD, show k < bs.length by omega]
        rw [this]; exact hlt256 _ (List.getElem_mem _)
      have hsnoc : halvesN (bs.take (k + 1)) = halvesN (bs.take k) ++ [bs.getD k 0 % 16] ++ [bs.getD k 0 / 16] := by
        rw [getD_take bs k (by omega), halvesN_snoc]
      have hlk : (halvesN (bs.take k)).length = 2 * k := by rw [halvesN_length, List.length_take]; omega
      have hcx' := hcx hlt
      clear hcx
      obtain ⟨pre, hpre⟩ : ∃ pre, halvesN (bs.take k) = pre := ⟨_, rfl⟩
      obtain ⟨x, hx⟩ : ∃ x, bs.getD k 0 = x := ⟨_, rfl⟩
      rw [hpre] at hlk hJs hsnoc
      rw [hx] at hx256 hcx' hsnoc
      obtain ⟨y, hy16⟩ : ∃ y, x % 16 = y := ⟨_, rfl⟩
      obtain ⟨z, hz16⟩ : ∃ z, x / 16 = z := ⟨_, rfl⟩
      have ly : y < 16 := by omega
      have lz : z < 16 := by omega
      have hand : bits .and .u8 (x : Int) 15 = (y : Int) := by
        rw [show (15 : Int) = ((15 : Nat) : Int) from rfl, u8_and_nat x 15 hx256 (by omega), show x &&& 15 = x % 16 from Nat.and_two_pow_sub_one_eq_mod x 4, hy16]
      have hshr : (x : Int) / 16 = (z : Int) := by omega
      have hyw : (y : Int) % 4294967296 = y := by omega
      have hzw : (z : Int) % 4294967296 = z := by omega
      rw [hy16, hz16] at hsnoc
      obtain ⟨fn, tmps, assign, body, hy, hR⟩ := hY pre ⟨y, ly⟩ wr hJs (by rw [hlk]; omega)
      have hY2 := fun W3 (hJ3 : J (pre ++ [y]) W3) => hY (pre ++ [y]) ⟨z, lz⟩ W3 hJ3 (by rw [List.length_append, hlk]; simp; omega)
      have HY2 := Lib.hid hY2
      have HS := Lib.hid hsnoc
      have HL := Lib.hid hlen
      clear hY hY2 hsnoc hlen hlk hpre hx hy16 hz16 hlt256 hJs hc
      gi_wp2
      refine hR.mono ?_
      rintro e W3 (⟨rfl, hJ3, hk3⟩ | ⟨rfl, hJx3⟩)
      · obtain ⟨fn2, tmps2, assign2, body2, hy2, hR2⟩ := HY2.out W3 hJ3
        clear hy hR
        gi_wp2
        refine hR2.mono ?_
        rintro e W4 (⟨rfl, hJ4, hk4⟩ | ⟨rfl, hJx4⟩)
        · clear hy2 hR2
          gi_wp2
          go_roundw
          case rel => exact ⟨k + 1, by omega, by simp, by rw [HS.out]; exact hJ4, (hnx.trans hk3).trans hk4⟩
          case measure => simp [intOf]; omega
        · gi_wp2
          refine bodyPost_ret (results_none rfl _ _ _) rfl ?_
          exact ⟨⟨_, rfl⟩, .inr ⟨_, trivial, hJx4⟩⟩
      · gi_wp2
        all_goals
          refine ⟨fun _ h => (by cases h), ?_⟩
          gi_wp2
          refine bodyPost_ret (results_none rfl _ _ _) rfl ?_
          exact ⟨⟨_, rfl⟩, .inr ⟨_, trivial, hJx3⟩⟩
    · obtain rfl : k = len := by omega
      gi_wp2
      go_end0
      exact ⟨⟨_, rfl⟩, .inl ⟨_, rfl, by rw [List.take_of_length_le (by omega)] at hJs; exact hJs⟩⟩

set_option maxRecDepth 100000 in
set_option maxHeartbeats 1000000 in
/-- .. at a slice without elements (a nil one, an empty one): no round. -/
theorem halves1_none_in (n : Nat) (l Bs cap : Nat) (A : Option Addr) (J : List Nat → World → Prop) (W : World) (hBs : W.cell? ⟨Bs, 0, none⟩ = some (.slice A 0 cap)) (h0 : J [] W) :
    CallsIn Fence.wide n Tryz.prog 122 #[.func (.yield l) #[] #[], .pointer (some ⟨Bs, 0, none⟩)] W fun e W' => (∃ v, e = .returned v) ∧ J [] W' := by
  refine callsIn_of_wp Tryz.func122 rfl trivial ?_ rfl
  simp only [Tryz.ntmps122, List.size_toArray, List.length_cons, List.length_nil, Nat.reduceAdd, Nat.reduceSub, Array.replicate_succ, Array.replicate_zero, List.push_toArray, List.append_toArray, List.nil_append, List.cons_append]
  gi_wp2
  gi_loopw [7] (fun i wr => i = .int .i64 0 ∧ J [] wr) (fun _ _ => 0)
  case atStart => exact ⟨rfl, h0⟩
  case round =>
    obtain ⟨rfl, hJs⟩ := hrel
    gi_wp2
    go_end0
    exact ⟨⟨_, rfl⟩, hJs⟩

set_option maxHeartbeats 1000000 in
/-- halves(b): the slice value is boxed; the function value captures the box. -/
theorem halves_in (n : Nat) (a : Option Addr) (len cap : Nat) (w : World) :
    CallsIn Fence.wide n Tryz.prog 105 #[.slice a len cap] w fun e w' => e = .returned (.func (.func 122) #[] #[.pointer (some ⟨w.heap.size, 0, none⟩)]) ∧ w' = w.alloc (.cells #[.slice a len cap] 29) := by
  refine callsIn_of_wp Tryz.func105 rfl trivial ?_ rfl
  simp only [Tryz.ntmps105, List.size_toArray, List.length_cons, List.length_nil, Nat.reduceAdd, Nat.reduceSub, Array.replicate_succ, Array.replicate_zero, List.push_toArray, List.append_toArray, List.nil_append, List.cons_append]
  gi_wp2
  go_ret
  exact ⟨rfl, rfl⟩

/-- A half of a byte. -/
abbrev Half := { x : Nat // x < 16 }

theorem halvesN_lt {bs : List Nat} (h : ∀ x ∈ bs, x < 256) : ∀ x ∈ halvesN bs, x < 16 := by
  intro x hx
  simp only [halvesN, List.mem_flatMap, List.mem_cons, List.not_mem_nil, or_false] at hx
  obtain ⟨y, hy, rfl | rfl⟩ := hx
  · omega
  · have := h y hy; omega

/-- halves(b) hands back a value that tells the halves in their order: all of them, or a part. -/
theorem halves_stops (n : Nat) (hn : 1 ≤ n) (Bs n₀ : Nat) (sv : Value) (bs : List Nat) (hreach : bs.length ≤ 140737488351232) (w : World) (hBs : Bs < w.heap.size) (hn₀ : n₀ ≤ w.heap.size)
    (hc : w.cell? ⟨Bs, 0, none⟩ = some sv) (hI : Bytes n₀ w sv bs) :
    SeqStopsK Fence.wide n Tryz.prog 122 #[.pointer (some ⟨Bs, 0, none⟩)] (fun x : Half => #[Value.int .u32 (x.1 : Nat)]) (Below n₀) (fun ys => ys.map (·.1) = halvesN bs) (fun _ => True) (2 * bs.length) w := fun l J Jx W hW _ _ hY h0 => by
  have hc' := (hW.cell (p := ⟨Bs, 0, none⟩) hBs).trans hc
  obtain ⟨A, cap, rfl, _, _, h256, hcs⟩ := hI.below (hW.mono hn₀)
  rcases Nat.eq_zero_or_pos bs.length with hz | hpos
  · rw [hz] at hc'
    obtain rfl : bs = [] := List.length_eq_zero_iff.1 hz
    exact (halves1_none_in n l Bs cap A (fun _ W => J [] W) W hc' h0).mono fun e W' ⟨he, hj⟩ => ⟨he, .inl ⟨[], rfl, hj⟩⟩
  · obtain ⟨b, off, rfl, hb, hcell⟩ := hcs hpos
    refine (halves1_in n hn l Bs n₀ b off bs.length cap bs rfl hreach h256 hb
      (fun pre W => ∃ ys : List Half, ys.map (·.1) = pre ∧ J ys W) (fun pre W => ∃ ys : List Half, ys.map (·.1) = pre ∧ Jx ys W) ?_ W hc' hcell ⟨[], rfl, h0⟩).mono ?_
    · rintro pre x W' ⟨ys, rfl, hJ⟩ hlen
      refine (hY ys x W' hJ (by simpa using hlen)).mono ?_
      rintro e W2 (⟨rfl, hJ2, hk2⟩ | ⟨rfl, hJ2⟩)
      · exact .inl ⟨rfl, ⟨ys ++ [x], by simp, hJ2⟩, hk2⟩
      · exact .inr ⟨rfl, ⟨ys ++ [x], by simp, hJ2⟩⟩
    · rintro e W' ⟨he, ⟨ys, rfl, zs, hz, hj⟩ | ⟨pre, _, zs, hz, hj⟩⟩
      · exact ⟨he, .inl ⟨zs, hz, hj⟩⟩
      · exact ⟨he, .inr ⟨zs, trivial, hj⟩⟩

theorem Tab.lt {W : World} (h : Tab W) : 0 < W.heap.size := by
  rcases Nat.lt_or_ge 0 W.heap.size with hlt | hge
  · exact hlt
  · have := h 0 (by decide)
    simp [World.cell?, Array.getElem?_eq_none hge] at this
theorem Tab.below {W W' : World} (h : Tab W) (hb : Below W.heap.size W W') : Tab W' := fun k hk =>
  (hb.cell (p := ⟨0, k, none⟩) h.lt).trans (h k hk)

end Go.Proofs.YtnhkpemajknfnaaGreatDoor.Crc

/-
  Contracts of the project's package crc: Extend and Sum hand back the plain functions of CrcMath, and nothing that lay has turned.
-/
namespace Go.Proofs.YtnhkpemajknfnaaGreatDoor.Crc
open Go.RowKit Go.Shelf Go.Proofs.YtnhkpemajknfnaaGreatDoor.Law

attribute [local go_sem] Oper.semAt_some

set_option maxRecDepth 100000 in
set_option maxHeartbeats 2000000 in
/-- Extend(sum, b). -/
theorem extend_in (n : Nat) (hn : 3 ≤ n) (s : Nat) (hs : s < 4294967296) (a : Option Addr) (len cap : Nat) (bs : List Nat) (hreach : bs.length ≤ 140737488351232) (w : World) (hT : Tab w) (hI : Bytes w.heap.size w (.slice a len cap) bs) :
    CallsIn Fence.wide n Tryz.prog 86 #[.int .u32 (s : Nat), .slice a len cap] w fun e W' => e = .returned (.int .u32 (extN s bs : Nat)) ∧ Below w.heap.size w W' := by
  have h1 : 1 ≤ n := by omega
  refine callsIn_of_wp_marks Tryz.func86 rfl trivial ?_ rfl
  simp only [Tryz.ntmps86, List.size_toArray, List.length_cons, List.length_nil, Nat.reduceAdd, Nat.reduceSub, Array.replicate_succ, Array.replicate_zero, List.push_toArray, List.append_toArray, List.nil_append, List.cons_append]
  obtain ⟨r0, hr0⟩ : ∃ r0, 4294967295 ^^^ s = r0 := ⟨_, rfl⟩
  have hr0lt : r0 < 4294967296 := hr0 ▸ not_lt s hs
  have hsg : IntKind.u32.signed = false := rfl
  have hnot : bits .xor .u32 IntKind.u32.max (s : Int) = (r0 : Int) := by
    rw [show IntKind.u32.max = ((4294967295 : Nat) : Int) from rfl, u32_xor_nat _ _ (by decide) hs, hr0]
  have HR := Lib.hid hr0
  clear hr0
  gi_wp2_with (refine ⟨trivial, ?_⟩; gi_at_call 105; refine (halves_in (n - 1) _ _ _ _).mono ?_; rintro e w' ⟨rfl, rfl⟩)
  have bR := Boxed.new w 115 (.int .u32 (r0 : Int))
  have bN := Boxed.new (w.alloc (.cells #[.int .u32 (r0 : Int)] 115)) 29 (.slice a len cap)
  rw [World.size_alloc] at bN
  have hB0 : Below w.heap.size w ((w.alloc (.cells #[.int .u32 (r0 : Int)] 115)).alloc (.cells #[.slice a len cap] 29)) := ((Below.refl _ w).alloc (Nat.le_refl _) _).alloc (by simp) _
  refine wpIn_rangeFunc_ownF rfl h1 (gf := 122) (lb := #[.pointer (some ⟨w.heap.size + 1, 0, none⟩)]) rfl trivial (enters_of Tryz.func122 (by kernel_rfl) rfl)
    (halves_stops (n - 1) (by omega) (w.heap.size + 1) w.heap.size _ bs hreach _ (by simp) (by simp; omega) bN.cell (hI.below hB0)) belowK_t (belowK_b (by simp; omega)) (Below.refl _ _) (fun _ => rfl)
    (fun pre W => (W.cell? ⟨w.heap.size, 0, none⟩ = some (.int .u32 ((pre.map (·.1)).foldl nibN r0 : Nat)) ∧ W.frozen? ⟨w.heap.size, 0, none⟩ = false) ∧ Below w.heap.size w W)
    (fun _ _ _ => False)
    (OwnFrom.and (Own.from (fun s A B row hs hg hr => ⟨cell_kept hs.1 hg hr, (frozen_kept hs.1 hg hr).trans hs.2⟩) _) (ownFrom_below (Nat.le_refl _) (by simp; omega)))
    (fun _ _ _ _ _ hs _ _ => hs)
    ⟨⟨(bR.alloc _).cell, (bR.alloc _).frozen⟩, hB0⟩
    (fun x => { tmps := #[.int .u32 (s : Int), .slice a len cap, undef, undef, .int .u32 0, .pointer (some ⟨w.heap.size, 0, none⟩), .int .u32 (x.1 : Nat), .int .u32 (s : Int), .int .u32 (r0 : Int), .slice a len cap, .func (.func 122) #[] #[.pointer (some ⟨w.heap.size + 1, 0, none⟩)], .int .u32 (x.1 : Nat), undef, undef, undef, undef, undef, undef, undef, undef, undef, undef, undef], defers := [] }) ?assign ?body ?done ?stop
  case assign =>
    intro l x W K hK
    gi_wp2
    exact hK
  case body =>
    rintro l pre x W ⟨⟨hc, hf⟩, hB⟩ _
    obtain ⟨x, hx16⟩ := x
    obtain ⟨r, hr⟩ : ∃ r, (pre.map (·.1)).foldl nibN r0 = r := ⟨_, rfl⟩
    have hrlt : r < 4294967296 := hr ▸ foldl_nibN_lt r0 _ hr0lt
    obtain ⟨q, hq⟩ : ∃ q, r / 16 = q := ⟨_, rfl⟩
    obtain ⟨m, hm⟩ : ∃ m, r ^^^ x = m := ⟨_, rfl⟩
    obtain ⟨k, hk⟩ : ∃ k, m % 16 = k := ⟨_, rfl⟩
    obtain ⟨t, ht⟩ : ∃ t, tabN.getD k 0 = t := ⟨_, rfl⟩
    have hmlt : m < 4294967296 := hm ▸ Nat.xor_lt_two_pow (n := 32) (by omega) (by omega)
    have hklt : k < 16 := by omega
    have htlt : t < 4294967296 := ht ▸ tabN_lt k
    have hnib : nibN r x = q ^^^ t := by unfold nibN; rw [hq, hm, hk, ht]
    have htab : W.cell? ⟨0, k, none⟩ = some (.int .u32 (t : Int)) := by rw [← ht]; exact hT.below hB k hklt
    have hshr : (r : Int) / 16 = (q : Int) := by omega
    have hxor : bits .xor .u32 (r : Int) (x : Int) = (m : Int) := by rw [u32_xor_nat _ _ hrlt (by omega), hm]
    have hand : bits .and .u32 (m : Int) 15 = (k : Int) := by
      rw [show (15 : Int) = ((15 : Nat) : Int) from rfl, u32_and_nat m 15 hmlt (by omega), show m &&& 15 = m % 16 from Nat.and_two_pow_sub_one_eq_mod m 4, hk]
    have hres : bits .xor .u32 (q : Int) (t : Int) = ((nibN r x : Nat) : Int) := by rw [u32_xor_nat _ _ (by omega) htlt, hnib]
    have hnext : ((pre ++ [(⟨x, hx16⟩ : Half)]).map (·.1)).foldl nibN r0 = nibN r x := by rw [List.map_append, List.foldl_append, hr]; rfl
    rw [hr] at hc
    obtain ⟨z, hz⟩ : ∃ z, nibN r x = z := ⟨_, rfl⟩
    rw [hz] at hres hnext
    have HN := Lib.hid hnext
    have hkI : (k : Int) < 16 := by omega
    have hmix : Tryz.prog.follows .mixedOrders = true := by kernel_rfl
    clear hr hq hm hk ht hnib hz hnext
    dsimp only
    gi_wp2
    gi_region_with_o (fail)
    all_goals gi_wp2
    all_goals exact ⟨(KeepsOthers.setCell _ _ _).trans (KeepsOthers.drew _), ((Below.refl w.heap.size W).setCell (p := ⟨w.heap.size, 0, none⟩) (Nat.le_refl _) _).drew, ⟨by rw [HN.out, cell_drew_own]; exact World.cell?_setCell_same' _ _ _ (by rw [hc]; rfl), by rw [frozen_drew_own, World.frozen?_setCell]; exact hf⟩, hB.trans ((Below.refl w.heap.size W).setCell (p := ⟨w.heap.size, 0, none⟩) (Nat.le_refl _) _).drew⟩
  case done =>
    rintro D ys W hD hys ⟨⟨hc, _⟩, hB⟩ hK
    have hrun : (ys.map (·.1)).foldl nibN r0 = runN r0 bs := by rw [hys]; rfl
    have hlt := runN_lt r0 bs hr0lt
    have hext : 4294967295 ^^^ runN r0 bs = extN s bs := by unfold extN; rw [HR.out]
    rw [hrun] at hc
    obtain ⟨R, hR⟩ : ∃ R, runN r0 bs = R := ⟨_, rfl⟩
    obtain ⟨E, hE⟩ : ∃ E, extN s bs = E := ⟨_, rfl⟩
    rw [hR] at hc hlt hext
    rw [hE] at hext
    have hnot2 : bits .xor .u32 IntKind.u32.max (R : Int) = (E : Int) := by
      rw [show IntKind.u32.max = ((4294967295 : Nat) : Int) from rfl, u32_xor_nat _ _ (by decide) hlt, hext]
    have HE := Lib.hid hE
    clear hrun hext hR hE hys
    gi_wp2
    refine ⟨by simp, .inl ⟨_, _, rfl, run_takeDeferred hK, ?_⟩⟩
    exact ⟨_, results_tmp rfl _ _ _, by rw [HE.out]; rfl, hB.trans (belowK_b (w := w) (Nat.le_refl _) W D _ _ (by simp at hD; omega) hK rfl rfl)⟩
  case stop =>
    rintro D c pre W _ _ h _
    exact h.elim

end Go.Proofs.YtnhkpemajknfnaaGreatDoor.Crc

/-
  Contracts of the project's package crc: Sum and Extend, as plain contracts, hand back the plain functions of CrcMath, and nothing that lay has turned.
-/
namespace Go.Proofs.YtnhkpemajknfnaaGreatDoor.Crc
open Go.RowKit Go.Shelf Go.Proofs.YtnhkpemajknfnaaGreatDoor.Law

attribute [local go_sem] Oper.semAt_some

/-- Extend, Sum: plain contracts. -/
theorem extend_calls (s : Nat) (hs : s < 4294967296) (sv : Value) (bs : List Nat) (hreach : bs.length ≤ 140737488351232) (w : World) (hT : Tab w) (hI : Bytes w.heap.size w sv bs) :
    Calls Tryz.prog 86 #[.int .u32 (s : Nat), sv] w fun e W' => e = .returned (.int .u32 (extN s bs : Nat)) ∧ Below w.heap.size w W' := by
  obtain ⟨A, cap, rfl, _⟩ := id hI
  exact callsIn_wide.1 (extend_in 9 (by omega) s hs _ _ _ bs hreach w hT hI)

set_option maxHeartbeats 1000000 in
theorem sum_calls (sv : Value) (bs : List Nat) (hreach : bs.length ≤ 140737488351232) (w : World) (hT : Tab w) (hI : Bytes w.heap.size w sv bs) :
    Calls Tryz.prog 69 #[sv] w fun e W' => e = .returned (.int .u32 (extN 0 bs : Nat)) ∧ Below w.heap.size w W' := by
  have hE : Calls Tryz.prog 86 #[.int .u32 0, sv] w fun e W' => e = .returned (.int .u32 (extN 0 bs : Nat)) ∧ Below w.heap.size w W' :=
    extend_calls 0 (by decide) sv bs hreach w hT hI
  go_enter Tryz.func69, Tryz.ntmps69
  go_wp2_with (go_at_call 86; refine hE.mono ?_; rintro e w' ⟨rfl, hB⟩)
  go_ret
  exact ⟨rfl, hB⟩

end Go.Proofs.YtnhkpemajknfnaaGreatDoor.Crc
