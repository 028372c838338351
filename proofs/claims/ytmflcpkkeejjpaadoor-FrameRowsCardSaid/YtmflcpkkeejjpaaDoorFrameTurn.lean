/-
  Plain facts: the rounds in which bytes of a row are turned, the first of them that is turned, and what is told of the row behind.
-/
import Derived.Test.YtmflcpkkeejjpaaDoorFrameFlip
namespace Go.Proofs.YtmflcpkkeejjpaaDoor.Frame
open Go.Proofs.YtmflcpkkeejjpaaDoor.Crc

/-- The byte that is turned in round j. -/
def byteN (t j : Nat) : Nat := t / 2 ^ (8 * j) % 256
/-- The row behind k rounds. -/
def turnL (b : List Nat) (a t : Nat) : Nat → List Nat
  | 0 => b
  | k + 1 => (turnL b a t k).set (a + k) ((turnL b a t k).getD (a + k) 0 ^^^ byteN t k)
theorem turnL_length (b : List Nat) (a t : Nat) : ∀ k, (turnL b a t k).length = b.length := by
  intro k
  induction k with
  | zero => rfl
  | succ k ih => simp [turnL, ih]
theorem turnL_get (b : List Nat) (a t : Nat) : ∀ k, a + k ≤ b.length → ∀ j, (turnL b a t k).getD j 0 = b.getD j 0 ^^^ (if a ≤ j ∧ j < a + k then byteN t (j - a) else 0) := by
  intro k
  induction k with
  | zero => intro _ j; rw [if_neg (by omega)]; simp [turnL]
  | succ k ih =>
    intro hk j
    have hl := turnL_length b a t k
    have ihj := ih (by omega) j
    unfold turnL
    by_cases hj : j = a + k
    · subst hj
      rw [if_pos (by omega)]
      rw [if_neg (by omega), Nat.xor_zero] at ihj
      have e : ((turnL b a t k).set (a + k) ((turnL b a t k).getD (a + k) 0 ^^^ byteN t k)).getD (a + k) 0 = (turnL b a t k).getD (a + k) 0 ^^^ byteN t k := by
        simp [List.getD, show a + k < (turnL b a t k).length by omega]
      rw [e, ihj, Nat.add_sub_cancel_left]
    · have e : ((turnL b a t k).set (a + k) ((turnL b a t k).getD (a + k) 0 ^^^ byteN t k)).getD j 0 = (turnL b a t k).getD j 0 := by
        simp [List.getD, Ne.symm hj]
      rw [e, ihj]
      congr 1
      by_cases h1 : a ≤ j ∧ j < a + k
      · rw [if_pos h1, if_pos (by omega)]
      · rw [if_neg h1, if_neg (by omega)]
theorem turnL_turned (b : List Nat) (a t k : Nat) (h : a + k ≤ b.length) : Turned b (turnL b a t k) a t k :=
  ⟨turnL_length b a t k, turnL_get b a t k h⟩

/-- The first place that is turned, -1 if none is. -/
def firstZ (a t : Nat) : Nat → Int
  | 0 => -1
  | k + 1 => if byteN t k ≠ 0 ∧ firstZ a t k < 0 then ((a + k : Nat) : Int) else firstZ a t k
theorem firstZ_spec (a t : Nat) : ∀ k, (firstZ a t k = -1 ∧ ∀ j, j < k → byteN t j = 0) ∨ (∃ f : Nat, firstZ a t k = (f : Int) ∧ a ≤ f ∧ f < a + k ∧ byteN t (f - a) ≠ 0 ∧ ∀ j, a ≤ j → j < f → byteN t (j - a) = 0) := by
  intro k
  induction k with
  | zero => exact .inl ⟨rfl, fun j hj => by omega⟩
  | succ k ih =>
    rcases ih with ⟨h1, h2⟩ | ⟨f, h1, h2, h3, h4, h5⟩
    · by_cases hb : byteN t k = 0
      · refine .inl ⟨by unfold firstZ; rw [if_neg (by omega), h1], fun j hj => ?_⟩
        by_cases hjk : j = k
        · rw [hjk]; exact hb
        · exact h2 j (by omega)
      · refine .inr ⟨a + k, by unfold firstZ; rw [if_pos ⟨hb, by omega⟩], by omega, by omega, by rw [Nat.add_sub_cancel_left]; exact hb, fun j h6 h7 => h2 _ (by omega)⟩
    · exact .inr ⟨f, by unfold firstZ; rw [if_neg (by omega), h1], h2, by omega, h4, h5⟩

theorem turned_none {b c : List Nat} {a t k : Nat} (h : Turned b c a t k) (hz : ∀ j, j < k → byteN t j = 0) : c = b := by
  apply List.ext_getElem
  · exact h.1
  · intro i h1 h2
    have e := h.2 i
    have e0 : (if a ≤ i ∧ i < a + k then t / 2 ^ (8 * (i - a)) % 256 else 0) = 0 := by
      split
      · exact hz _ (by omega)
      · rfl
    rw [e0, Nat.xor_zero] at e
    simpa [List.getD, h1, h2] using e

/-- Of a row that is turned the payloads ahead of the frame that is turned first are told, and no more. -/
theorem told_turned {ps : List (List Nat)} {c : List Nat} {a t k f m : Nat} (hsh : ∀ p ∈ ps, p.length ≤ 65536) (h256 : ∀ x ∈ rowN ps, x < 256) (c256 : ∀ x ∈ c, x < 256) (h : Turned (rowN ps) c a t k) (hk : k ≤ 4) (haf : a ≤ f) (hfk : f < a + k)
    (hz : ∀ j, a ≤ j → j < f → byteN t (j - a) = 0) (hf : byteN t (f - a) ≠ 0) (hm : m < ps.length) (h1 : (rowN (ps.take m)).length ≤ f) (h2 : f < (rowN (ps.take (m + 1))).length) :
    Told c (ps.take m) (rowN (ps.take m)).length ∧ Done c (rowN (ps.take m)).length := by
  have e1 : ps.take (m + 1) = ps.take m ++ [ps[m]] := List.take_succ_eq_append_getElem hm
  have e : rowN ps = rowN (ps.take m) ++ (frameN ps[m] ++ rowN (ps.drop (m + 1))) := by
    have : ps = ps.take m ++ (ps[m] :: ps.drop (m + 1)) := by rw [← List.drop_eq_getElem_cons hm, List.take_append_drop]
    conv => lhs; rw [this]
    rw [rowN_append]; rfl
  rw [e1, rowN_snoc, List.length_append, frameN_length] at h2
  have hpre : c.take (rowN (ps.take m)).length = rowN (ps.take m) := by
    have hb := turned_below h hz
    have h3 := congrArg (fun l => l.take (rowN (ps.take m)).length) hb
    simp only [List.take_take] at h3
    rw [Nat.min_eq_left h1] at h3
    rw [h3, e, List.take_left' rfl]
  have hc : c = rowN (ps.take m) ++ c.drop (rowN (ps.take m)).length := by
    conv => lhs; rw [← List.take_append_drop (rowN (ps.take m)).length c]
    rw [hpre]
  refine ⟨?_, ?_⟩
  · rw [hc]; exact told_row _ _ (fun p hp => hsh p (List.mem_of_mem_take hp))
  · rw [e] at h h256
    exact turned_err (hsh _ (List.getElem_mem hm)) h256 c256 h hk haf hfk hz hf h1 (by omega)

theorem told_whole {ps : List (List Nat)} (hsh : ∀ p ∈ ps, p.length ≤ 65536) : Told (rowN ps) ps (rowN ps).length ∧ Done (rowN ps) (rowN ps).length := by
  have h1 := told_row [] ps hsh
  have h2 := done_row (ps := ps) (rest := []) (fun at0 => readN_nil at0)
  rw [List.append_nil] at h1 h2
  exact ⟨h1, h2⟩

theorem byteN_lt (t j : Nat) : byteN t j < 256 := Nat.mod_lt _ (by decide)

end Go.Proofs.YtmflcpkkeejjpaaDoor.Frame
