/-
  Plain facts on the parts of a message.
-/
import Derived.Test.YtjeklbgonnbocaaWireMath
namespace Go.Proofs.Ytjeklbgonnbocaa.Wire

mutual
/-- Items that are all in form can only be too many or too deep. -/
theorem chkI_fine (d c : Nat) : ∀ x : Item, x.fine → (chkI d c x).2 = 0 ∨ (chkI d c x).2 = 2
  | .mk k n s l => by
    intro h
    rw [Item.fine] at h
    rw [chkI, if_neg (by rw [h.1]; exact Bool.noConfusion)]
    split
    · exact .inr rfl
    · exact chkL_fine (d + 1) (c + 1) l h.2
theorem chkL_fine (d c : Nat) : ∀ l : List Item, fineL l → (chkL d c l).2 = 0 ∨ (chkL d c l).2 = 2
  | [] => by intro _; rw [chkL]; exact .inl rfl
  | x :: r => by
    intro h
    rw [fineL] at h
    rw [chkL]
    split
    · exact chkI_fine d c x h.1
    · exact chkL_fine d _ r h.2
end

def emptyText : ByteArray := ⟨#[]⟩
/-- An int and a text. -/
def intItem (n : Int) : Item := .mk 0 n emptyText []
def textItem (s : ByteArray) : Item := .mk 1 0 s []

theorem chk_two (n : Int) (s : ByteArray) (r : List Item) : chkL 1 0 (intItem n :: textItem s :: r) = chkL 1 2 r := by
  have h1 : chkI 1 0 (intItem n) = (1, 0) := by
    have : (intItem n).form = true := rfl
    rw [intItem, chkI, if_neg (by rw [show Item.form (.mk 0 n emptyText []) = true from this]; exact Bool.noConfusion), if_neg (by omega), chkL]
  have h2 : chkI 1 1 (textItem s) = (2, 0) := by
    have : (textItem s).form = true := rfl
    rw [textItem, chkI, if_neg (by rw [show Item.form (.mk 1 0 s []) = true from this]; exact Bool.noConfusion), if_neg (by omega), chkL]
  rw [chkL_cons, h1, if_neg (by simp), chkL_cons, h2, if_neg (by simp)]

theorem two_length (n : Int) (s : ByteArray) : (bytesL [intItem n, textItem s]).length ≤ 22 + s.size := by
  have h1 : ∀ m, (num m).length ≤ 10 := fun m => numF_le 9 m
  have h2 := h1 (intItem n).no
  have h3 := h1 (textItem s).no
  simp only [bytesL, bytes_eq, List.length_append, List.length_cons, List.length_nil, sb_length]
  simp only [intItem, textItem, Item.s, Item.kids, bytesL, List.length_nil] at h2 h3 ⊢
  have : emptyText.size = 0 := rfl
  omega

theorem enc_two (n : Int) (s : ByteArray) : encN [intItem n, textItem s] = if 65536 < (bytesL [intItem n, textItem s]).length then ([], 2) else (bytesL [intItem n, textItem s], 0) := by
  have := chk_two n s []
  rw [chkL_nil] at this
  unfold encN
  rw [this, if_neg (by simp)]

theorem enc_more (n : Int) (s : ByteArray) (l : List Item) (h : (encN l).2 = 0) : (encN ([intItem n, textItem s] ++ l)).2 = 0 ∨ (encN ([intItem n, textItem s] ++ l)).2 = 2 := by
  have hok : (chkL 1 0 l).2 = 0 := by
    unfold encN at h
    by_cases h0 : (chkL 1 0 l).2 = 0
    · exact h0
    · rw [if_pos h0] at h; exact h
  have hf := (chkL_ok 1 0 l hok).2.1
  have h2 := chkL_fine 1 2 l hf
  unfold encN
  rw [show [intItem n, textItem s] ++ l = intItem n :: textItem s :: l from rfl, chk_two]
  split
  · exact h2
  · split
    · exact .inr rfl
    · exact .inl rfl
theorem enc_ok {l : List Item} (h : (encN l).2 = 0) : (encN l).1 = bytesL l ∧ (bytesL l).length ≤ 65536 := by
  unfold encN at h ⊢
  split at h
  · rename_i h1; exact absurd h h1
  · rename_i h1
    rw [if_neg h1]
    split at h
    · cases h
    · rename_i h2; rw [if_neg h2]; exact ⟨rfl, by omega⟩

end Go.Proofs.Ytjeklbgonnbocaa.Wire
