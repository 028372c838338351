/-
  Take at the program's post and at the document's.
-/
import Derived.Test.YtjcgkjjomiapoaaMailPairs
namespace Go.Proofs.Ytjcgkjjomiapoaa.Mail
open Go Go.RowKit Go.Proofs.Ytjcgkjjomiapoaa.Law

def PostTake (base p : Nat) (nodes : Int) (l : List Mail3) (m : Mail3) (r : Int) (w : World) (e : Ending) (W : World) : Prop :=
  ∃ A c, e = .returned (.tuple #[mailV m.src m.dst (.slice A m.bs.length c), .int .i64 r]) ∧ (∀ W', Frm isRefP base W W' → Bytes W'.heap.size W' (.slice A m.bs.length c) m.bs) ∧ Post W base p nodes (l.map Mail3.msg) ∧ Frm isPost base w W
def RefTakeS (base q : Nat) (nodes : Int) (l : List Mail3) (m : Mail3) (r : Int) (w : World) (e : Ending) (W : World) : Prop :=
  ∃ A c, e = .returned (.tuple #[mailV m.src m.dst (.slice A m.bs.length c), .int .i64 r]) ∧ Bytes W.heap.size W (.slice A m.bs.length c) m.bs ∧ RefPost W base q nodes l ∧ Frm isRefP base w W

theorem bytes_nil (n : Nat) (W : World) : Bytes n W (.slice none 0 0) [] := ⟨none, 0, rfl, by simp, fun _ => rfl, by simp, by simp⟩

theorem pair_take (base p q : Nat) (nodes : Int) (l : List Mail3) (hg : Good l) (hroom : l.length ≤ 1000) (i : Int) :
    ∃ r m l', (∀ W, base ≤ W.heap.size → Post W base p nodes (l.map Mail3.msg) → Calls Try.prog 11 #[.pointer (some ⟨p, 0, none⟩), .int .i64 i] W (PostTake base p nodes l' m r W)) ∧
      (∀ W, base ≤ W.heap.size → RefPost W base q nodes l → Calls Try.prog 12 #[.pointer (some ⟨q, 0, none⟩), .int .i64 i] W (RefTakeS base q nodes l' m r W)) ∧ Good l' ∧ l'.length ≤ l.length + 1 := by
  by_cases h : i < 0 ∨ (l.length : Nat) ≤ i
  · refine ⟨7, ⟨0, 0, []⟩, l, fun W hb hP => ?_, fun W hb hR => ?_, hg, by omega⟩
    · exact (take_none base p nodes _ W hP i (by rw [List.length_map]; exact h)).mono fun e W' ⟨he, hB⟩ => ⟨none, 0, he, fun W2 _ => bytes_nil _ _, hP.below hB, Frm.of_below hB hb⟩
    · exact (refTake_none base q nodes _ W hR i h).mono fun e W' ⟨he, hB⟩ => ⟨none, 0, he, bytes_nil _ _, hR.below hB, Frm.of_below hB hb⟩
  · obtain ⟨k, rfl⟩ : ∃ k : Nat, i = (k : Int) := ⟨i.toNat, by omega⟩
    obtain ⟨m, hm⟩ : ∃ m, l[k]? = some m := ⟨_, List.getElem?_eq_getElem (by omega)⟩
    have hgm := hg.at hm
    have hbo : bytesOf m.msg.s = m.bs := bytesOf_str hgm.2
    refine ⟨0, m, l.take k ++ l.drop (k + 1), fun W hb hP => ?_, fun W hb hR => ?_, fun x hx => ?_, by rw [List.length_append, List.length_take, List.length_drop]; omega⟩
    · refine (take_calls base p nodes _ W hP hb k m.msg (by rw [List.getElem?_map, hm]; rfl) (by rw [msg_size]; exact hgm.1)).mono ?_
      rintro e W' ⟨v, rfl, h1, h2, h3, _⟩
      rw [hbo] at h1
      obtain ⟨g, c, rfl, _⟩ := h1.own
      refine ⟨_, c, rfl, fun W2 hF => (Given.frm h1 hF (by decide)).bytes, ?_, h3⟩
      rw [List.map_append, List.map_take, List.map_drop]
      exact h2
    · refine (refTake_calls base q nodes l W hR hb k m hm (by omega)).mono ?_
      rintro e W' ⟨v, rfl, h1, h2, h3⟩
      obtain ⟨A, c, rfl⟩ := h1.form
      exact ⟨A, c, rfl, h1, h2, h3⟩
    · rcases List.mem_append.1 hx with hx | hx
      · exact hg x (List.mem_of_mem_take hx)
      · exact hg x (List.mem_of_mem_drop hx)

end Go.Proofs.Ytjcgkjjomiapoaa.Mail
