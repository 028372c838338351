/-
  The statement 'WirePartsSaid' is proved: for every input that the row admits the law returns true and each argument reads as it read before. Conditions: the form's own reach.
-/
import Derived.Test.YtjeklbgonnbocaaRows
import Derived.Test.YtjeklbgonnbocaaWirePartsLaw
import Derived.ProofKit
import Derived.SizedLaws
namespace Go.Proofs.Ytjeklbgonnbocaa.wireParts
open Go Go.ChangeShapes Go.WideShapes Go.ChangeAt Go.RowKit Go.Proofs.Ytjeklbgonnbocaa.Law Go.Proofs.Ytjeklbgonnbocaa.Wire

theorem own : ownKnob Try.prog.godebug = none := by kernel_rfl
theorem laidOut : laidOutB Try.prog = true := by kernel_rfl

set_option maxRecDepth 100000 in
theorem lifted (os : Os) (started : os.Started) (H : Type) (enc : TypeId × Value → H) :
    ReturnsInHanded {} Try.checked os 6 .any (Rows.wirePartsSpec.pre6 enc Try.prog Try.f6 Rows.wirePartsRow.domain false) (Rows.wirePartsSpec.post enc Try.prog Try.f6 false true false false) := by
  refine returnsInHanded_of_change_sized (C := Try.checked) own started (by kernel_rfl) Try.func6
    (ChangeSpec.witness6 (enc := enc) (C := Try.checked) false ⟨#[], #[.int .i64 0, .string ByteArray.empty, .slice none 0 0], []⟩ 8 (by kernel_rfl) (by kernel_rfl) (by kernel_rfl) (by kernel_rfl)) ?_
  intro W base args ds gs before hval0 hW _ hsz0 _
  have hreach' : (DataW.weightsEach Try.prog (Try.f6.params.toList ++ []) (ds ++ gs)).all (· ≤ reachBytes) = true := hsz0
  have hval : ∀ (j : Nat) t v, Try.f6.params[j]? = some t → args[j]? = some v → Value.okWide Try.prog W .any base t v := hval0
  have hW0 := hW
  obtain ⟨p, q, hA0, hV, rfl, hfz, hnd⟩ := hW
  have hA : DataW.TrodAll enc Try.prog W 0 (fun _ => true) true Try.f6.params.toList args.toList ds p := hA0
  rw [Try.params6] at hA hval hreach'
  have hV' : DataW.TrodVars enc Try.prog W (fun _ => true) [] gs q := hV
  obtain ⟨rfl, rfl⟩ := trodVars_none hV'
  clear hsz0 hA0 hval0
  obtain ⟨v0, vs0, d0, ds0, p0, q0, hargs, rfl, rfl, h0, r0⟩ := trodAll_cons hA
  obtain ⟨v1, vs1, d1, ds1, p1, q1, rfl, rfl, rfl, h1, r1⟩ := trodAll_cons r0
  obtain ⟨v2, vs2, d2, ds2, p2, q2, rfl, rfl, rfl, h2, r2⟩ := trodAll_cons r1
  obtain ⟨rfl, rfl, rfl⟩ := trodAll_nil r2
  obtain rfl : args = #[v0, v1, v2] := by cases args; simp_all
  have hpost : ∀ (e : Ending) (W' : World), e = .returned (.bool true) ∧ Below W.heap.size W W' → ∃ v, e = .returned v ∧ Rows.wirePartsSpec.post enc Try.prog Try.f6 false true false false W #[v0, v1, v2] v W' := fun e W' ⟨he, hB⟩ =>
    ⟨_, he, law_post laidOut (by kernel_rfl) rfl Try.underlying4 rfl hW0 rfl hB⟩
  refine Calls.mono ?_ hpost
  simp only [DataW.weightsEach, List.append_nil, List.all_append, Bool.and_eq_true] at hreach'
  obtain ⟨hw0, hw1, hw2⟩ := hreach'
  obtain ⟨z0, rfl, rfl, rfl, wz0⟩ := open_int Try.underlying3 (hval 0 3 v0 rfl rfl) h0
  obtain ⟨lz0, uz0⟩ := i64_wf wz0
  obtain ⟨s1, rfl, rfl, rfl, ws1⟩ := Go.ChangeMaps.open_string Try.underlying9 (hval 1 9 v1 rfl rfl) h1
  have hs1 : s1.size ≤ 140737488351232 := by
    have h := List.all_eq_true.1 hw1 s1.data.toList.length (by simp [DataW.weights])
    rw [Array.length_toList] at h
    exact of_decide_eq_true h
  obtain ⟨l2, hI2, hF2⟩ := open_items_arg (hval 2 22 v2 rfl rfl) h2 hw2
  exact wireParts_law z0 lz0 uz0 s1 hs1 l2 hF2 v2 W hI2

theorem holds : Rows.WirePartsSaid :=
  OpenClaim.holds_of_wide 6 Try.f6 rfl rfl rfl rfl rfl rfl rfl ⟨rfl, rfl, rfl, rfl, rfl⟩ rfl rfl rfl rfl rfl (by kernel_rfl) Try.func6 (by kernel_rfl)
    (of_decide_eq_true (by kernel_rfl)) (by unfold Func.isWrapper; first | (rw [if_pos (by decide +kernel)]; kernel_rfl) | (rw [if_neg (by decide +kernel)]; exact ⟨rfl, rfl⟩))
    (fun os started H enc _ => lifted os started H enc)
end Go.Proofs.Ytjeklbgonnbocaa.wireParts
