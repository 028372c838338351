/-
  Texts in order (byte by byte), and rows of texts sorted. Of no program (picked out of SeglogNames).
-/
import Derived.Sort.Walk0
import Derived.Test.YtmfndimejnbgkaaLaw
namespace Go.Proofs.Ytmfndimejnbgkaa.Law
open Go Go.RowKit Go.Lib Go.Sort

/-- The order of names. -/
theorem bytesLess_irr : ∀ l : List UInt8, Op.bytesLess l l = false
  | [] => rfl
  | a :: l => by
    have h : ¬ a < a := by intro h; exact Nat.lt_irrefl _ (UInt8.lt_iff_toNat_lt.1 h)
    simp [Op.bytesLess, bytesLess_irr l, h]
def ltN (a b : ByteArray) : Bool := Op.bytesLess a.toList b.toList
theorem bl_cons (a b : UInt8) (x y : List UInt8) : Op.bytesLess (a :: x) (b :: y) = true ↔ a.toNat < b.toNat ∨ (a = b ∧ Op.bytesLess x y = true) := by
  simp [Op.bytesLess, UInt8.lt_iff_toNat_lt]
theorem bl_trans : ∀ x y z : List UInt8, Op.bytesLess x y = true → Op.bytesLess y z = true → Op.bytesLess x z = true
  | _, [], _, h, _ => by simp [Op.bytesLess] at h
  | _, _ :: _, [], _, h => by simp [Op.bytesLess] at h
  | [], _ :: _, _ :: _, _, _ => by simp [Op.bytesLess]
  | a :: x, b :: y, c :: z, h1, h2 => by
    rw [bl_cons] at h1 h2 ⊢
    rcases h1 with h1 | ⟨rfl, h1⟩
    · rcases h2 with h2 | ⟨rfl, h2⟩
      · left; omega
      · left; exact h1
    · rcases h2 with h2 | ⟨rfl, h2⟩
      · left; exact h2
      · right; exact ⟨rfl, bl_trans x y z h1 h2⟩
theorem bl_total : ∀ x y : List UInt8, Op.bytesLess x y = false → x ≠ y → Op.bytesLess y x = true
  | [], [], _, h => absurd rfl h
  | _ :: _, [], _, _ => by simp [Op.bytesLess]
  | [], _ :: _, h, _ => by simp [Op.bytesLess] at h
  | a :: x, b :: y, h, hne => by
    have h' : ¬ (a.toNat < b.toNat ∨ (a = b ∧ Op.bytesLess x y = true)) := by
      rw [← bl_cons, h]; decide
    rw [bl_cons]
    by_cases hab : a = b
    · subst hab
      right
      refine ⟨rfl, bl_total x y ?_ (fun e => hne (by rw [e]))⟩
      cases hb : Op.bytesLess x y with
      | false => rfl
      | true => exact absurd (.inr ⟨rfl, hb⟩) h'
    · left
      have : a.toNat ≠ b.toNat := fun e => hab (UInt8.toNat_inj.1 e)
      omega
theorem ltN_trans {a b c : ByteArray} (h1 : ltN a b = true) (h2 : ltN b c = true) : ltN a c = true := bl_trans _ _ _ h1 h2
theorem ltN_total {a b : ByteArray} (h : ltN a b = false) (hne : a ≠ b) : ltN b a = true := bl_total _ _ h fun e => hne (by
  rw [Lib.toList_data, Lib.toList_data] at e
  exact ByteArray.ext (Array.toList_inj.1 e))
theorem ltN_ne {a b : ByteArray} (h : ltN a b = true) : a ≠ b := by
  rintro rfl
  rw [ltN, bytesLess_irr] at h
  exact absurd h (by decide)
theorem back_bytes (l : List ByteArray) : (l.map fun s => s.data.toList).map (fun b => (⟨b.toArray⟩ : ByteArray)) = l := by
  rw [List.map_map]
  conv => rhs; rw [← List.map_id l]
  exact List.map_congr_left fun s _ => rfl
/-- The same texts in order: what the library's sort makes of them. -/
def sortN (l : List ByteArray) : List ByteArray := ((l.map fun s => s.data.toList).mergeSort fun x y => decide (x ≤ y)).map fun b => ⟨b.toArray⟩
theorem sortN_perm (l : List ByteArray) : (sortN l).Perm l := by
  have h := (List.mergeSort_perm (l.map fun s => s.data.toList) fun x y => decide (x ≤ y)).map fun b => (⟨b.toArray⟩ : ByteArray)
  rw [back_bytes] at h
  exact h
theorem le_bl {x y : List UInt8} : decide (x ≤ y) = true ↔ Op.bytesLess y x = false := by
  rw [decide_eq_true_iff, bytesLess_eq, decide_eq_false_iff_not, List.not_lt]
theorem sortN_sorted {l : List ByteArray} (hn : l.Nodup) : (sortN l).Pairwise fun a b => ltN a b = true := by
  have h1 : ((l.map fun s => s.data.toList).mergeSort fun x y => decide (x ≤ y)).Pairwise fun a b => decide (a ≤ b) = true := by
    refine List.pairwise_mergeSort (le := fun x y => decide (x ≤ y)) ?_ ?_ _
    · intro a b c h1 h2
      rw [le_bl] at *
      cases h : Op.bytesLess c a with
      | false => rfl
      | true =>
        exfalso
        by_cases hcb : c = b
        · subst hcb; rw [h1] at h; cases h
        · have := bl_trans b c a (bl_total c b h2 hcb) h
          rw [h1] at this; cases this
    · intro a b
      rw [Bool.or_eq_true, le_bl, le_bl]
      cases h : Op.bytesLess b a with
      | false => exact .inl rfl
      | true =>
        right
        cases h2 : Op.bytesLess a b with
        | false => rfl
        | true =>
          have := bl_trans a b a h2 h
          rw [bytesLess_irr] at this; cases this
  have hnd : (sortN l).Nodup := (sortN_perm l).nodup_iff.2 hn
  unfold sortN at hnd ⊢
  rw [List.Nodup, List.pairwise_map] at hnd
  rw [List.pairwise_map]
  refine (h1.and hnd).imp ?_
  rintro a b ⟨h2, h3⟩
  rw [le_bl] at h2
  show Op.bytesLess (ByteArray.toList _) (ByteArray.toList _) = true
  rw [Lib.toList_data, Lib.toList_data]
  refine bl_total b a h2 fun e => h3 (by rw [e])

end Go.Proofs.Ytmfndimejnbgkaa.Law
