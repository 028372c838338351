/-
  The statement 'EntryEncodesSaid' is proved: for every input that the row admits the law returns true and each argument reads as it read before. Conditions: the form's own reach.
-/
import Derived.Test.YtffehnojcajhiaaEgJ
import Derived.Test.YtffehnojcajhiaaEgO
import Derived.Lib.QuietBelow
import Derived.Test.YtffehnojcajhiaaRows
import Derived.Test.YtffehnojcajhiaaEgB
import Derived.ProofKit
import Derived.SizedLaws
namespace Go.Proofs.Ytffehnojcajhiaa.Wire.Entry
open Go Go.RowKit Go.Sort Go.Proofs.Ytffehnojcajhiaa.Law

set_option maxRecDepth 100000 in
set_option maxHeartbeats 4000000 in
theorem entryEncodes_law (a : Ent) (ha : a.wf) (u : Value) (w : World) (hI : OldO w.heap.size w u a.ops) :
    Calls Try.prog 3 #[entV a u] w (RetB w true) := by
  have hE0 := EBox.new w a u
  have hB0 := (Below.refl w.heap.size w).alloc (Nat.le_refl _) (.cells #[.int .i64 a.kind, .int .i64 a.r.p, .int .i64 a.r.q, .int .i64 a.r.a, .string a.r.key, .int .u32 (a.r.val : Nat), u, .int .i64 a.n] 29)
  have HI := Lib.hid hI
  obtain ⟨⟨xs, ea⟩, hRa⟩ : ∃ R, encE a = R := ⟨_, rfl⟩
  obtain ⟨g, hg⟩ := exB a.good
  have CA : Hid (∀ W, Below w.heap.size w W → Calls Try.prog 8 #[entV a u] W (RetText W (xs, ea))) := Lib.hid fun W hW => by
    have := encodeE_calls a ha u W (OpsAt.on hW hI)
    rwa [hRa] at this
  have CR : Hid (∀ W, Below w.heap.size w W → Calls Try.prog 9 #[entV a u] W (RetText W (xs, ea))) := Lib.hid fun W hW => by
    have := refEncodeE_calls a ha u W (OpsAt.on hW hI)
    rwa [hRa] at this
  have CG : Hid (∀ W, Below w.heap.size w W → Calls Try.prog 11 #[entV a u] W (RetB W g)) := Lib.hid fun W hW => good_calls a ha u W (OpsAt.on hW hI) g hg
  have CH : Hid (∀ W, Below w.heap.size w W → Calls Try.prog 12 #[entV a u] W (RetB W g)) := Lib.hid fun W hW => refGood_calls a ha u W (OpsAt.on hW hI) g hg
  have HE := Lib.hid hE0
  have HB := Lib.hid hB0
  clear hI hRa hE0 hB0 ha hg
  go_enter Try.func3, Try.ntmps3
  go_wp2_with fail
  generalize w.alloc (.cells #[.int .i64 a.kind, .int .i64 a.r.p, .int .i64 a.r.q, .int .i64 a.r.a, .string a.r.key, .int .u32 (a.r.val : Nat), u, .int .i64 a.n] 29) = w1 at HE HB ⊢
  refine (CA.out _ HB.out).mono ?_
  rintro e w2 ⟨rfl, B2⟩
  have HE2 := Lib.hid (HE.out.low B2)
  have HB2 := Lib.hid (HB.out.trans (B2.mono HB.out.size))
  obtain ⟨a0, a1, a2, a3, a4, a5, a6, a7⟩ := HE2.out.cells
  clear B2 HB HE CA
  go_wp2_with fail
  refine (CR.out _ HB2.out).mono ?_
  rintro e w3 ⟨rfl, B3⟩
  have hE3 := HE2.out.low B3
  have hB3 := HB2.out.trans (B3.mono HB2.out.size)
  have hs3 := hB3.size
  clear B3 HB2 HE2 CR a0 a1 a2 a3 a4 a5 a6 a7
  obtain ⟨a0, a1, a2, a3, a4, a5, a6, a7⟩ := hE3.cells
  have k0 := fun d os => cell_regrown a0 d os
  have k1 := fun d os => cell_regrown a1 d os
  have k2 := fun d os => cell_regrown a2 d os
  have k3 := fun d os => cell_regrown a3 d os
  have k4 := fun d os => cell_regrown a4 d os
  have k5 := fun d os => cell_regrown a5 d os
  have k6 := fun d os => cell_regrown a6 d os
  have k7 := fun d os => cell_regrown a7 d os
  have hlow : ∀ d os, Below w.heap.size w (grow (redrawn w3 d) os) := fun d os => hB3.trans ((below_regrown w3 d os).mono hs3)
  have CG2 := Lib.hid fun d os => Calls.regrown_of (d := d) (os := os) (CG.out _ (hlow d os))
  have CH2 := Lib.hid fun d os => Calls.regrown_of (d := d) (os := os) (CH.out _ (hlow d os))
  have CK2 := Lib.hid fun d os => Calls.regrown_of (d := d) (os := os) (known_calls (grow (redrawn w3 d) os))
  have HB3 := Lib.hid hB3
  have hgg : (g == g) = true := by cases g <;> rfl
  clear hlow hB3 hE3 CG CH a0 a1 a2 a3 a4 a5 a6 a7
  go_wp2_with fail
  refine wp_region_quiet_below (by kernel_rfl) (by kernel_rfl) ?_
  repeat (go_big_quiet_step ((first | exact CK2.out _ _ | exact CG2.out _ _ | exact CH2.out _ _)))
  refine wpQuiet_nil ?_
  intro w' hw'
  obtain ⟨⟨d, os⟩, rfl⟩ := hw'
  have HB4 := Lib.hid (HB3.out.trans ((below_regrown w3 d os).mono hs3))
  clear CG2 CH2 CK2 k0 k1 k2 k3 k4 k5 k6 k7 HB3
  generalize grow (redrawn w3 d) os = w4 at HB4 ⊢
  go_wp2_with fail
  go_ret
  exact ⟨rfl, HB4.out⟩

end Go.Proofs.Ytffehnojcajhiaa.Wire.Entry

namespace Go.Proofs.Ytffehnojcajhiaa.entryEncodes
open Go Go.ChangeShapes Go.WideShapes Go.ChangeAt Go.RowKit Go.Proofs.Ytffehnojcajhiaa.Law Go.Proofs.Ytffehnojcajhiaa.Wire Go.Proofs.Ytffehnojcajhiaa.Wire.Entry

theorem own : ownKnob Try.prog.godebug = none := by kernel_rfl
theorem laidOut : laidOutB Try.prog = true := by kernel_rfl

set_option maxRecDepth 100000 in
theorem lifted (os : Os) (started : os.Started) (H : Type) (enc : TypeId × Value → H) :
    ReturnsInHanded {} Try.checked os 3 .any (Rows.entryEncodesSpec.pre6 enc Try.prog Try.f3 Rows.entryEncodesRow.domain false) (Rows.entryEncodesSpec.post enc Try.prog Try.f3 false true false false) := by
  refine returnsInHanded_of_change_sized (C := Try.checked) own started (by kernel_rfl) Try.func3
    (ChangeSpec.witness6 (enc := enc) (C := Try.checked) false ⟨#[], #[.agg #[.int .i64 0, .int .i64 0, .int .i64 0, .int .i64 0, .string ⟨#[]⟩, .int .u32 0, .slice none 0 0, .int .i64 0]], []⟩ 8 (by kernel_rfl) (by kernel_rfl) (by kernel_rfl) (by kernel_rfl)) ?_
  intro W base args ds gs before hval0 hW _ hsz0 _
  have hreach' : (DataW.weightsEach Try.prog (Try.f3.params.toList ++ []) (ds ++ gs)).all (· ≤ reachBytes) = true := hsz0
  have hval : ∀ (j : Nat) t v, Try.f3.params[j]? = some t → args[j]? = some v → Value.okWide Try.prog W .any base t v := hval0
  have hW0 := hW
  obtain ⟨p, q, hA0, hV, rfl, hfz, hnd⟩ := hW
  have hA : DataW.TrodAll enc Try.prog W 0 (fun _ => true) true Try.f3.params.toList args.toList ds p := hA0
  rw [Try.params3] at hA hval hreach'
  have hV' : DataW.TrodVars enc Try.prog W (fun _ => true) [] gs q := hV
  obtain ⟨rfl, rfl⟩ := trodVars_none hV'
  clear hsz0 hA0 hval0
  obtain ⟨v0, vs0, d0, ds0, p0, q0, hargs, rfl, rfl, h0, r0⟩ := trodAll_cons hA
  obtain ⟨rfl, rfl, rfl⟩ := trodAll_nil r0
  obtain rfl : args = #[v0] := by cases args; simp_all
  have hpost : ∀ (e : Ending) (W' : World), e = .returned (.bool true) ∧ Below W.heap.size W W' → ∃ v, e = .returned v ∧ Rows.entryEncodesSpec.post enc Try.prog Try.f3 false true false false W #[v0] v W' := fun e W' ⟨he, hB⟩ =>
    ⟨_, he, law_post laidOut (by kernel_rfl) rfl Try.underlying4 rfl hW0 rfl hB⟩
  refine Calls.mono ?_ hpost
  simp only [DataW.weightsEach, List.append_nil] at hreach'
  have hw0 := hreach'
  obtain ⟨x0, u0, rfl, hI0, hF0⟩ := open_ent (hval 0 29 v0 rfl rfl) h0 hw0
  exact entryEncodes_law x0 hF0 u0 W hI0

theorem holds : Rows.EntryEncodesSaid :=
  OpenClaim.holds_of_wide 3 Try.f3 rfl rfl rfl rfl rfl rfl rfl ⟨rfl, rfl, rfl, rfl, rfl⟩ rfl rfl rfl rfl rfl (by kernel_rfl) Try.func3 (by kernel_rfl)
    (of_decide_eq_true (by kernel_rfl)) (by unfold Func.isWrapper; first | (rw [if_pos (by decide +kernel)]; kernel_rfl) | (rw [if_neg (by decide +kernel)]; exact ⟨rfl, rfl⟩))
    (fun os started H enc _ => lifted os started H enc)
end Go.Proofs.Ytffehnojcajhiaa.entryEncodes
