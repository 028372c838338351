/-
  Plain facts: a frame of which bytes are turned, within four in a row, is no frame any more at its place.
-/
import Derived.Test.YtmflcpkkeejjpaaDoorFrameMath
namespace Go.Proofs.YtmflcpkkeejjpaaDoor.Frame
open Go.Proofs.YtmflcpkkeejjpaaDoor.Crc

theorem bitAt_le4 (c p : Nat) (hp : p < 32) : bitAt (le4 c) p = c.testBit p := by
  have h : ∀ k, k < 4 → (le4 c).getD k 0 = c / 2 ^ (8 * k) % 2 ^ 8 := by
    intro k hk
    match k, hk with
    | 0, _ => simp [le4]
    | 1, _ => simp [le4]
    | 2, _ => simp [le4]
    | 3, _ => simp [le4]
  unfold bitAt
  rw [h _ (by omega), Nat.testBit_mod_two_pow, Nat.testBit_div_two_pow, decide_eq_true (by omega), Bool.true_and]
  congr 1; omega

theorem regAt_le4 (r : BitVec 32) (c : Nat) : ∀ q, q ≤ 32 → regAt r (le4 c) q = stepsB q (r ^^^ BitVec.ofNat 32 (c % 2 ^ q)) := by
  intro q
  induction q with
  | zero => intro _; simp [regAt, stepsB, Nat.mod_one]
  | succ q ih =>
    intro hq
    rw [regAt, ih (by omega), bitAt_le4 c q (by omega), stepsB_snoc]
    congr 1
    rw [mod_pow_succ, BitVec.ofNat_xor, ← BitVec.xor_assoc, stepsB_xor (x := r ^^^ _)]
    congr 1
    rw [Nat.testBit_eq_decide_div_mod_eq]
    obtain h0 | h0 : c / 2 ^ q % 2 = 0 ∨ c / 2 ^ q % 2 = 1 := by omega
    · rw [h0]; simp [bit1, stepsB_zero]
    · rw [h0, Nat.mul_one, bit_back32 q (by omega)]; rfl

/-- Bytes with their sum behind have one sum, whatever they are. -/
theorem extN_own (s : Nat) (hs : s < 4294967296) : extN s (le4 s) = extN 0 (le4 0) := by
  have key : ∀ s, s < 4294967296 → BitVec.ofNat 32 (runN (4294967295 ^^^ s) (le4 s)) = stepsB 32 (BitVec.ofNat 32 4294967295) := by
    intro s hs
    have h := runN_regAt (4294967295 ^^^ s) (not_lt s hs) (le4 s) (le4_lt s) 4 (Nat.le_refl _)
    rw [show (le4 s).take 4 = le4 s from rfl] at h
    rw [h, show 8 * 4 = 32 from rfl, regAt_le4 _ _ 32 (Nat.le_refl _), show s % 2 ^ 32 = s from Nat.mod_eq_of_lt hs, ← BitVec.ofNat_xor, Nat.xor_assoc, Nat.xor_self, Nat.xor_zero]
  have h1 := key s hs
  have h2 := key 0 (by decide)
  rw [← h2] at h1
  have := congrArg BitVec.toNat h1
  rw [BitVec.toNat_ofNat, BitVec.toNat_ofNat, Nat.mod_eq_of_lt (runN_lt _ _ (not_lt s hs)), Nat.mod_eq_of_lt (runN_lt _ _ (not_lt 0 (by decide)))] at this
  unfold extN
  rw [this]

theorem extN_summed (a : List Nat) : extN 0 (a ++ le4 (extN 0 a)) = extN 0 (le4 0) := by
  rw [extN_append, extN_own _ (extN_lt 0 a (by decide))]

/-- Bytes with their sum behind, of which some are turned within four in a row, are no bytes with their sum behind. -/
theorem summed_apart {a c : List Nat} {x y : List Nat} {s t m : Nat} (hx : x = a ++ le4 (extN 0 a)) (hy : y = c ++ le4 (extN 0 c)) (hl : y.length = x.length) (h1 : ∀ z ∈ x, z < 256) (h2 : ∀ z ∈ y, z < 256)
    (hd : Differ x y s t m) (hm : m ≤ 32) (hs : s + m ≤ 8 * x.length) : t % 2 ^ m = 0 := by
  refine (sum_differ hl h1 h2 hd hm hs).1 ?_
  rw [hx, hy, extN_summed, extN_summed]

theorem byte_differ {x y : List Nat} {s t k : Nat} (h : ∀ j, y.getD j 0 = x.getD j 0 ^^^ (if s ≤ j ∧ j < s + k then t / 2 ^ (8 * (j - s)) % 256 else 0)) : Differ x y (8 * s) t (8 * k) := by
  intro p
  unfold bitAt
  rw [h, Nat.testBit_xor, ← Bool.xor_assoc, Bool.xor_self, Bool.false_xor]
  by_cases hp : s ≤ p / 8 ∧ p / 8 < s + k
  · rw [if_pos hp, decide_eq_true (by omega), decide_eq_true (by omega), Bool.true_and, Bool.true_and, show (256 : Nat) = 2 ^ 8 from rfl, Nat.testBit_mod_two_pow, Nat.testBit_div_two_pow, decide_eq_true (by omega), Bool.true_and]
    congr 1; omega
  · rw [if_neg hp, Nat.zero_testBit]
    by_cases h1 : s ≤ p / 8
    · rw [decide_eq_false (by omega : ¬ p < 8 * s + 8 * k), Bool.and_false, Bool.false_and]
    · rw [decide_eq_false (by omega : ¬ 8 * s ≤ p), Bool.false_and, Bool.false_and]

/-- The bytes of which those from the place a on, k of them, are turned by the bytes of t. -/
def Turned (b c : List Nat) (a t k : Nat) : Prop := c.length = b.length ∧ ∀ j, c.getD j 0 = b.getD j 0 ^^^ (if a ≤ j ∧ j < a + k then t / 2 ^ (8 * (j - a)) % 256 else 0)

/-- A piece of them in which the first one that is turned lies. -/
theorem piece_differ {b c : List Nat} {a t k f i l : Nat} (h : Turned b c a t k) (haf : a ≤ f) (hfk : f < a + k) (hz : ∀ j, a ≤ j → j < f → t / 2 ^ (8 * (j - a)) % 256 = 0) (hif : i ≤ f) (hfl : f < i + l) :
    Differ ((b.drop i).take l) ((c.drop i).take l) (8 * (f - i)) (t / 2 ^ (8 * (f - a))) (8 * min (a + k - f) (i + l - f)) := by
  refine byte_differ fun j => ?_
  rw [getD_piece, getD_piece]
  by_cases hj : j < l
  · rw [if_pos hj, if_pos hj, h.2]
    congr 1
    by_cases h1 : a ≤ i + j ∧ i + j < a + k
    · rw [if_pos h1]
      by_cases h2 : i + j < f
      · rw [hz _ h1.1 h2, if_neg (by omega)]
      · rw [if_pos (by omega), Nat.div_div_eq_div_mul, ← Nat.pow_add]
        congr 3; omega
    · rw [if_neg h1]
      by_cases h3 : f - i ≤ j ∧ j < f - i + min (a + k - f) (i + l - f)
      · omega
      · rw [if_neg h3]
  · rw [if_neg hj, if_neg hj, if_neg (by omega)]; rfl

/-- .. below the first one they are as they were. -/
theorem turned_below {b c : List Nat} {a t k f : Nat} (h : Turned b c a t k) (hz : ∀ j, a ≤ j → j < f → t / 2 ^ (8 * (j - a)) % 256 = 0) : c.take f = b.take f := by
  apply List.ext_getElem?
  intro j
  rw [List.getElem?_take, List.getElem?_take]
  by_cases hj : j < f
  · rw [if_pos hj, if_pos hj]
    have e := h.2 j
    have e0 : (if a ≤ j ∧ j < a + k then t / 2 ^ (8 * (j - a)) % 256 else 0) = 0 := by
      split
      · exact hz j (by omega) hj
      · rfl
    rw [e0, Nat.xor_zero] at e
    by_cases hl : j < b.length
    · have hl2 : j < c.length := by rw [h.1]; exact hl
      simp only [List.getD, List.getElem?_eq_getElem hl, List.getElem?_eq_getElem hl2, Option.getD_some] at e ⊢
      rw [e]
    · have hc := h.1
      rw [List.getElem?_eq_none (show b.length ≤ j by omega), List.getElem?_eq_none (show c.length ≤ j by omega)]
  · rw [if_neg hj, if_neg hj]

/-- A frame of which bytes are turned is no frame any more. -/
theorem turned_err {pre p rest c : List Nat} {a t k f : Nat} (hp : p.length ≤ 65536) (h256 : ∀ x ∈ pre ++ (frameN p ++ rest), x < 256) (c256 : ∀ x ∈ c, x < 256) (h : Turned (pre ++ (frameN p ++ rest)) c a t k) (hk : k ≤ 4) (haf : a ≤ f) (hfk : f < a + k)
    (hz : ∀ j, a ≤ j → j < f → t / 2 ^ (8 * (j - a)) % 256 = 0) (hf : t / 2 ^ (8 * (f - a)) % 256 ≠ 0) (h1 : pre.length ≤ f) (h2 : f < pre.length + 12 + p.length) :
    Done c pre.length := by
  intro hgood
  obtain ⟨_, hn1, hn2, hsum1, hsum2⟩ := readN_ok hgood
  have hclen : c.length = pre.length + (12 + p.length + rest.length) := by rw [h.1]; simp only [List.length_append, frameN_length]
  have p256 : ∀ x ∈ p, x < 256 := fun x hx => h256 x (by simp [frameN, hx])
  have hs : extN 0 (le4 p.length) < 4294967296 := extN_lt 0 _ (by decide)
  have hdrop : (pre ++ (frameN p ++ rest)).drop pre.length = frameN p ++ rest := drop_app rfl
  have nz : ∀ m, 0 < m → ¬ t / 2 ^ (8 * (f - a)) % 2 ^ (8 * m) = 0 := by
    intro m hm h0
    apply hf
    have : t / 2 ^ (8 * (f - a)) % 2 ^ (8 * m) % 256 = t / 2 ^ (8 * (f - a)) % 256 := by
      apply Nat.mod_mod_of_dvd
      rw [show (256 : Nat) = 2 ^ 8 from rfl]
      exact Nat.pow_dvd_pow 2 (by omega)
    rw [← this, h0]
  obtain ⟨r, hr⟩ : ∃ r, c.drop pre.length = r := ⟨_, rfl⟩
  rw [hr] at hn1 hn2 hsum1 hsum2
  have r256 : ∀ x ∈ r, x < 256 := fun x hx => c256 x (by rw [← hr] at hx; exact List.mem_of_mem_drop hx)
  have rlen : r.length = 12 + p.length + rest.length := by rw [← hr, List.length_drop]; omega
  by_cases h8 : f < pre.length + 8
  · have hd := piece_differ (i := pre.length) (l := 8) h haf hfk hz h1 (by omega)
    rw [hdrop, hr] at hd
    have hx : (frameN p ++ rest).take 8 = le4 p.length ++ le4 (extN 0 (le4 p.length)) := by
      have : frameN p ++ rest = (le4 p.length ++ le4 (extN 0 (le4 p.length))) ++ (p ++ le4 (extN 0 p) ++ rest) := by simp [frameN, List.append_assoc]
      rw [this, take_app (by simp [le4_length])]
    have hy : r.take 8 = r.take 4 ++ le4 (extN 0 (r.take 4)) := by
      rw [← hsum1, le4_num4 (fun x hx => r256 x (List.mem_of_mem_drop hx)) (by rw [List.length_drop]; omega)]
      rw [show (8 : Nat) = 4 + 4 from rfl, List.take_add]
    have hlx : ((frameN p ++ rest).take 8).length = 8 := by rw [List.length_take, List.length_append, frameN_length]; omega
    refine nz _ (by omega) (summed_apart hx hy (by rw [hlx, List.length_take]; omega) (fun z hz' => ?_) (fun z hz' => r256 z (List.mem_of_mem_take hz')) hd (by omega) (by rw [hlx]; omega))
    exact h256 z (List.mem_append_right _ (List.mem_of_mem_take hz'))
  · have hbelow := turned_below h hz
    have hhead : r.take 8 = (frameN p ++ rest).take 8 := by
      have e1 := congrArg (fun l => (l.drop pre.length).take 8) hbelow
      simp only [List.drop_take, List.take_take] at e1
      rw [show min 8 (f - pre.length) = 8 by omega, hr, hdrop] at e1
      exact e1
    have hn : num4 r = p.length := by
      rw [← num4_take r 8 (by omega), hhead, num4_take _ 8 (by omega)]
      have : frameN p ++ rest = le4 p.length ++ (le4 (extN 0 (le4 p.length)) ++ (p ++ le4 (extN 0 p)) ++ rest) := by simp [frameN, List.append_assoc]
      rw [this]; exact num4_le4 _ (by omega) _
    rw [hn] at hn2 hsum2
    have hd := piece_differ (i := pre.length + 8) (l := p.length + 4) h haf hfk hz (by omega) (by omega)
    rw [← List.drop_drop, hdrop, ← List.drop_drop, hr] at hd
    have hx : ((frameN p ++ rest).drop 8).take (p.length + 4) = p ++ le4 (extN 0 p) := by
      have : frameN p ++ rest = (le4 p.length ++ le4 (extN 0 (le4 p.length))) ++ ((p ++ le4 (extN 0 p)) ++ rest) := by simp [frameN, List.append_assoc]
      rw [this, drop_app (by simp [le4_length]), take_app (by simp [le4_length])]
    have hy : (r.drop 8).take (p.length + 4) = (r.drop 8).take p.length ++ le4 (extN 0 ((r.drop 8).take p.length)) := by
      rw [← hsum2, le4_num4 (fun x hx => r256 x (List.mem_of_mem_drop hx)) (by rw [List.length_drop]; omega), List.take_add, List.drop_drop]
    have hlx : (((frameN p ++ rest).drop 8).take (p.length + 4)).length = p.length + 4 := by rw [hx]; simp [le4_length]
    refine nz _ (by omega) (summed_apart hx hy (by rw [hlx, List.length_take, List.length_drop]; omega) (fun z hz' => ?_) (fun z hz' => r256 z (List.mem_of_mem_drop (List.mem_of_mem_take hz'))) hd (by omega) (by rw [hlx]; omega))
    exact h256 z (List.mem_append_right _ (List.mem_of_mem_drop (List.mem_of_mem_take hz')))

end Go.Proofs.YtmflcpkkeejjpaaDoor.Frame
