/-
  The statement 'ModelSumsSaid' is proved: for every input that the row admits the law returns true and each argument reads as it read before. Conditions: the form's own reach.
-/
import Derived.Test.YtmfndimejnbgkaaRows
import Derived.Test.YtmfndimejnbgkaaModelSumsLaw
import Derived.Test.YtmfndimejnbgkaaModelOpen
import Derived.ProofKit
import Derived.SizedLaws
namespace Go.Proofs.Ytmfndimejnbgkaa.modelSums
open Go Go.ChangeShapes Go.WideShapes Go.ChangeAt Go.RowKit Go.Proofs.Ytmfndimejnbgkaa.Law Go.Proofs.Ytmfndimejnbgkaa.Graph Go.Proofs.Ytmfndimejnbgkaa.Fold Go.Proofs.Ytmfndimejnbgkaa.Model

theorem own : ownKnob Try.prog.godebug = none := by kernel_rfl
theorem laidOut : laidOutB Try.prog = true := by kernel_rfl

set_option maxRecDepth 100000 in
theorem lifted (os : Os) (started : os.Started) (H : Type) (enc : TypeId × Value → H) :
    ReturnsInHanded {} Try.checked os 3 .any (Rows.modelSumsSpec.pre6 enc Try.prog Try.f3 Rows.modelSumsRow.domain false) (Rows.modelSumsSpec.post enc Try.prog Try.f3 false true false false) := by
  refine returnsInHanded_of_change_sized (C := Try.checked) own started (by kernel_rfl) Try.func3
    (ChangeSpec.witness6 (enc := enc) (C := Try.checked) false ⟨#[], #[.slice none 0 0], []⟩ 8 (by kernel_rfl) (by kernel_rfl) (by kernel_rfl) (by kernel_rfl)) ?_
  intro W base args ds gs before hval0 hW _ hsz0 _
  have hreach' : (DataW.weightsEach Try.prog (Try.f3.params.toList ++ []) (ds ++ gs)).all (· ≤ reachBytes) = true := hsz0
  have hval : ∀ (j : Nat) t v, Try.f3.params[j]? = some t → args[j]? = some v → Value.okWide Try.prog W .any base t v := hval0
  have hW0 := hW
  obtain ⟨p, q, hA0, hV, rfl, hfz, hnd⟩ := hW
  have hA : DataW.TrodAll enc Try.prog W 0 (fun _ => true) true Try.f3.params.toList args.toList ds p := hA0
  rw [Try.params3] at hA hval hreach'
  have hV' : DataW.TrodVars enc Try.prog W (fun _ => true) [] gs q := hV
  obtain ⟨rfl, rfl⟩ := trodVars_none hV'
  clear hsz0 hA0 hval0
  obtain ⟨v0, vs0, d0, ds0, p0, q0, hargs, rfl, rfl, h0, r0⟩ := trodAll_cons hA
  obtain ⟨rfl, rfl, rfl⟩ := trodAll_nil r0
  obtain rfl : args = #[v0] := by cases args; simp_all
  have hpost : ∀ (e : Ending) (W' : World), e = .returned (.bool true) ∧ Below W.heap.size W W' → ∃ v, e = .returned v ∧ Rows.modelSumsSpec.post enc Try.prog Try.f3 false true false false W #[v0] v W' := fun e W' ⟨he, hB⟩ =>
    ⟨_, he, law_post laidOut (by kernel_rfl) rfl Try.underlying4 rfl hW0 rfl hB⟩
  refine Calls.mono ?_ hpost
  simp only [DataW.weightsEach, List.append_nil] at hreach'
  have hw0 := hreach'
  obtain ⟨l0, hE0, hep0, hel0⟩ := open_epochs (hval 0 22 v0 rfl rfl) h0 hw0
  exact modelSums_law l0 hep0 hel0 v0 W hE0

theorem holds : Rows.ModelSumsSaid :=
  OpenClaim.holds_of_wide 3 Try.f3 rfl rfl rfl rfl rfl rfl rfl ⟨rfl, rfl, rfl, rfl, rfl⟩ rfl rfl rfl rfl rfl (by kernel_rfl) Try.func3 (by kernel_rfl)
    (of_decide_eq_true (by kernel_rfl)) (by unfold Func.isWrapper; first | (rw [if_pos (by decide +kernel)]; kernel_rfl) | (rw [if_neg (by decide +kernel)]; exact ⟨rfl, rfl⟩))
    (fun os started H enc _ => lifted os started H enc)
end Go.Proofs.Ytmfndimejnbgkaa.modelSums
