/-
  The statement 'ModelFormsSaid' is proved: for every input that the row admits the law returns true and each argument reads as it read before. Conditions: the form's own reach.
-/
import Derived.Test.YtkofipbkfniplaaRows
import Derived.Test.YtkofipbkfniplaaModelFormsLaw
import Derived.Test.YtkofipbkfniplaaModelOpen
import Derived.ProofKit
import Derived.SizedLaws
namespace Go.Proofs.Ytkofipbkfniplaa.modelForms
open Go Go.ChangeShapes Go.WideShapes Go.ChangeAt Go.RowKit Go.Proofs.Ytkofipbkfniplaa.Law Go.Proofs.Ytkofipbkfniplaa.Graph Go.Proofs.Ytkofipbkfniplaa.Fold Go.Proofs.Ytkofipbkfniplaa.Model

theorem own : ownKnob Try.prog.godebug = none := by kernel_rfl
theorem laidOut : laidOutB Try.prog = true := by kernel_rfl

set_option maxRecDepth 100000 in
theorem lifted (os : Os) (started : os.Started) (H : Type) (enc : TypeId × Value → H) :
    ReturnsInHanded {} Try.checked os 3 .any (Rows.modelFormsSpec.pre6 enc Try.prog Try.f3 Rows.modelFormsRow.domain false) (Rows.modelFormsSpec.post enc Try.prog Try.f3 false true false false) := by
  refine returnsInHanded_of_change_sized (C := Try.checked) own started (by kernel_rfl) Try.func3
    (ChangeSpec.witness6 (enc := enc) (C := Try.checked) false ⟨#[], #[.agg #[.slice none 0 0], .agg #[.slice none 0 0], .slice none 0 0], []⟩ 8 (by kernel_rfl) (by kernel_rfl) (by kernel_rfl) (by kernel_rfl)) ?_
  intro W base args ds gs before hval0 hW _ hsz0 _
  have hreach' : (DataW.weightsEach Try.prog (Try.f3.params.toList ++ []) (ds ++ gs)).all (· ≤ reachBytes) = true := hsz0
  have hval : ∀ (j : Nat) t v, Try.f3.params[j]? = some t → args[j]? = some v → Value.okWide Try.prog W .any base t v := hval0
  have hW0 := hW
  obtain ⟨p, q, hA0, hV, rfl, hfz, hnd⟩ := hW
  have hA : DataW.TrodAll enc Try.prog W 0 (fun _ => true) true Try.f3.params.toList args.toList ds p := hA0
  rw [Try.params3] at hA hval hreach'
  have hV' : DataW.TrodVars enc Try.prog W (fun _ => true) [] gs q := hV
  obtain ⟨rfl, rfl⟩ := trodVars_none hV'
  clear hsz0 hA0 hval0
  obtain ⟨v0, vs0, d0, ds0, p0, q0, hargs, rfl, rfl, h0, r0⟩ := trodAll_cons hA
  obtain ⟨v1, vs1, d1, ds1, p1, q1, rfl, rfl, rfl, h1, r1⟩ := trodAll_cons r0
  obtain ⟨v2, vs2, d2, ds2, p2, q2, rfl, rfl, rfl, h2, r2⟩ := trodAll_cons r1
  obtain ⟨rfl, rfl, rfl⟩ := trodAll_nil r2
  obtain rfl : args = #[v0, v1, v2] := by cases args; simp_all
  have hpost : ∀ (e : Ending) (W' : World), e = .returned (.bool true) ∧ Below W.heap.size W W' → ∃ v, e = .returned v ∧ Rows.modelFormsSpec.post enc Try.prog Try.f3 false true false false W #[v0, v1, v2] v W' := fun e W' ⟨he, hB⟩ =>
    ⟨_, he, law_post laidOut (by kernel_rfl) rfl Try.underlying4 rfl hW0 rfl hB⟩
  refine Calls.mono ?_ hpost
  simp only [DataW.weightsEach, List.append_nil, List.all_append, Bool.and_eq_true] at hreach'
  obtain ⟨hw0, hw1, hw2⟩ := hreach'
  obtain ⟨l0, u0, rfl, hI0, hF0, hl0⟩ := open_graph (hval 0 24 v0 rfl rfl) h0 hw0
  have hin0 : ∀ x ∈ l0, x.ins.length * 8 ≤ 140737488351232 := fun x hx => (hF0 x hx).2.2.2.2.2.2.2
  have hnum0 : ∀ x ∈ l0, x.num < 4294967296 ∧ x.lim < 4294967296 := fun x hx => ⟨(hF0 x hx).2.2.2.1, (hF0 x hx).2.2.2.2.2.2.1⟩
  obtain ⟨l1, u1, rfl, hS1, hwf1, hl1⟩ := open_state (hval 1 27 v1 rfl rfl) h1 hw1
  obtain ⟨l2, hP2, hwf2, hl2⟩ := open_pairs (hval 2 28 v2 rfl rfl) h2 hw2
  exact modelForms_law l0 hl0 l1 hl1 (fun p hp => (hwf1 p hp).2) l2 hl2 u0 u1 v2 W hI0 hS1 hP2

theorem holds : Rows.ModelFormsSaid :=
  OpenClaim.holds_of_wide 3 Try.f3 rfl rfl rfl rfl rfl rfl rfl ⟨rfl, rfl, rfl, rfl, rfl⟩ rfl rfl rfl rfl rfl (by kernel_rfl) Try.func3 (by kernel_rfl)
    (of_decide_eq_true (by kernel_rfl)) (by unfold Func.isWrapper; first | (rw [if_pos (by decide +kernel)]; kernel_rfl) | (rw [if_neg (by decide +kernel)]; exact ⟨rfl, rfl⟩))
    (fun os started H enc _ => lifted os started H enc)
end Go.Proofs.Ytkofipbkfniplaa.modelForms
