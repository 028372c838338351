/-
  All uses together are all inputs together: plain sums.
-/
import Derived.Test.YtbgmhjcccabmmaaGraphReachMath
namespace Go.Proofs.Ytbgmhjcccabmmaa.Graph

def sumF (f : Nat → Nat) : Nat → Nat
  | 0 => 0
  | n + 1 => sumF f n + f n
theorem sumF_add (f g : Nat → Nat) : ∀ n, sumF (fun a => f a + g a) n = sumF f n + sumF g n
  | 0 => rfl
  | n + 1 => by rw [sumF, sumF, sumF, sumF_add f g n]; omega
theorem sumF_congr {f g : Nat → Nat} : ∀ {n : Nat}, (∀ a, a < n → f a = g a) → sumF f n = sumF g n
  | 0, _ => rfl
  | n + 1, h => by rw [sumF, sumF, sumF_congr (fun a ha => h a (by omega)), h n (by omega)]
theorem sumF_zero {f : Nat → Nat} : ∀ {n : Nat}, (∀ a, a < n → f a = 0) → sumF f n = 0
  | 0, _ => rfl
  | n + 1, h => by rw [sumF, sumF_zero (fun a ha => h a (by omega)), h n (by omega)]
theorem sumF_one (c : Nat) : ∀ {n : Nat}, c < n → sumF (fun a => if a = c then 1 else 0) n = 1
  | 0, h => by omega
  | n + 1, h => by
    rw [sumF]
    by_cases hc : c = n
    · subst hc
      rw [sumF_zero (fun a ha => by rw [if_neg (by omega)]), if_pos rfl]
    · rw [sumF_one c (by omega), if_neg (fun e => hc e.symm)]
theorem sum_uIn {ins : List Int} {i n : Nat} (h : ∀ y ∈ ins, 0 ≤ y ∧ y < (n : Int)) : ∀ k, k ≤ ins.length → sumF (fun a => (uIn ins i (a : Int) k).length) n = k
  | 0, _ => sumF_zero fun _ _ => rfl
  | k + 1, hk => by
    have hy : ins[k]? = some ins[k] := List.getElem?_eq_getElem (by omega)
    obtain ⟨h0, h1⟩ := h ins[k] (List.getElem_mem _)
    obtain ⟨c, hc⟩ := Int.eq_ofNat_of_zero_le h0
    have e : ∀ a, a < n → (uIn ins i (a : Int) (k + 1)).length = (uIn ins i (a : Int) k).length + (if a = c then 1 else 0) := by
      intro a _
      rw [uIn, List.length_append, hy, hc]
      congr 1
      by_cases hac : a = c
      · subst hac; simp
      · have : ¬ ((c : Int) = (a : Int)) := by omega
        simp [hac, this]
    rw [sumF_congr e, sumF_add, sum_uIn h k (by omega), sumF_one c (by omega)]
theorem sum_uAll {l : List Opr} (hg : goodG l) : ∀ i, i ≤ l.length → sumF (fun a => (uAll l (a : Int) i).length) l.length = insN (l.take i)
  | 0, _ => sumF_zero fun _ _ => rfl
  | i + 1, hi => by
    have hx : l[i]? = some l[i] := List.getElem?_eq_getElem (by omega)
    have e : ∀ a, a < l.length → (uAll l (a : Int) (i + 1)).length = (uAll l (a : Int) i).length + (uIn l[i].ins i (a : Int) l[i].ins.length).length := by
      intro a _
      rw [uAll, List.length_append, uOp, hx]
    rw [sumF_congr e, sumF_add, sum_uAll hg i (by omega), sum_uIn (fun y hy => by have := (hg.ins hx).2 y hy; omega) _ (Nat.le_refl _), take_snoc hx]
    simp only [insN, List.map_append, List.sum_append, List.map_cons, List.map_nil, List.sum_cons, List.sum_nil, Nat.add_zero]
/-- How many uses the operators ahead of the k-th have. -/
def useN (l : List Opr) (k : Nat) : Nat := sumF (fun a => (usesL l (a : Int)).length) k
theorem useN_succ (l : List Opr) (k : Nat) : useN l (k + 1) = useN l k + (usesL l (k : Int)).length := rfl
theorem useN_all {l : List Opr} (hg : goodG l) : useN l l.length = insN l := by
  have := sum_uAll hg l.length (Nat.le_refl _)
  rw [List.take_length] at this
  exact this
theorem useN_le {l : List Opr} : ∀ k, useN l k ≤ k * insN l
  | 0 => by simp [useN, sumF]
  | k + 1 => by
    have := useN_le (l := l) k
    have h2 := usesL_le l (k : Int)
    rw [useN_succ, Nat.add_mul]
    omega

end Go.Proofs.Ytbgmhjcccabmmaa.Graph
