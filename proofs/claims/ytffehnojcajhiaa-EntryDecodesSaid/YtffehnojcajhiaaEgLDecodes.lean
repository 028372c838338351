/-
  The statement 'EntryDecodesSaid' is proved: for every input that the row admits the law returns true and each argument reads as it read before. Conditions: the form's own reach.
-/
import Derived.Test.YtffehnojcajhiaaEgJ
import Derived.Test.YtffehnojcajhiaaEgK
import Derived.Test.YtffehnojcajhiaaEgQ
import Derived.Test.YtffehnojcajhiaaRows
import Derived.Test.YtffehnojcajhiaaEgB
import Derived.ProofKit
import Derived.SizedLaws
namespace Go.Proofs.Ytffehnojcajhiaa.Wire.Entry
open Go Go.RowKit Go.Proofs.Ytffehnojcajhiaa.Law

set_option maxRecDepth 100000 in
set_option maxHeartbeats 4000000 in
theorem entryDecodes_law (s : ByteArray) (hs : s.size ≤ 140737488351232) (w : World) :
    Calls Try.prog 4 #[.string s] w (RetB w true) := by
  obtain ⟨r, hr⟩ : ∃ r, decE (sb s) = r := ⟨_, rfl⟩
  have DS : Hid (∀ W, Calls Try.prog 13 #[.string s] W (RetDec W r)) := Lib.hid fun W => by
    have := decodeE_calls s hs W
    rwa [hr] at this
  have DR : Hid (∀ W, Calls Try.prog 14 #[.string s] W (RetDec W r)) := Lib.hid fun W => by
    have := refDecodeE_calls s hs W
    rwa [hr] at this
  have hwf : ∀ y, r = some y → y.wf := fun y hy => by rw [hy] at hr; exact decE_wf (sb_lt s) hr
  have HWF := Lib.hid hwf
  have HK := Lib.hid known_calls
  clear hr hs hwf
  go_enter Try.func4, Try.ntmps4
  go_wp2_with fail
  refine (DS.out _).mono ?_
  rintro e w1 ⟨x, A1, n1, c1, rfl, hx, hz, hO, B1⟩
  obtain ⟨ec, hec⟩ : ∃ ec : Int, (if r.isSome = true then (0 : Int) else 3) = ec := ⟨_, rfl⟩
  rw [hec]
  have HEC := Lib.hid hec
  clear hec
  have hO1 := hO.mono (T := fun b => b < w1.heap.size) (fun k hk => hk.2)
  have hX := EBox.new w1 x (.slice A1 n1 c1)
  have hBx := (Below.refl w1.heap.size w1).alloc (Nat.le_refl _) (.cells #[.int .i64 x.kind, .int .i64 x.r.p, .int .i64 x.r.q, .int .i64 x.r.a, .string x.r.key, .int .u32 (x.r.val : Nat), .slice A1 n1 c1, .int .i64 x.n] 29)
  have HB1 := Lib.hid (B1.trans (hBx.mono B1.size))
  have HO1 := Lib.hid (OpsAt.on hBx hO1)
  have HX1 := Lib.hid hX
  have HX := Lib.hid hx
  have HZ := Lib.hid hz
  clear hO hO1 hX hBx B1 hx hz DS
  go_upto_region 2 with fail
  generalize w1.alloc (.cells #[.int .i64 x.kind, .int .i64 x.r.p, .int .i64 x.r.q, .int .i64 x.r.a, .string x.r.key, .int .u32 (x.r.val : Nat), .slice A1 n1 c1, .int .i64 x.n] 29) = w2 at HB1 HO1 HX1 ⊢
  obtain ⟨p, hp⟩ : ∃ p, w1.heap.size = p := ⟨_, rfl⟩
  rw [hp] at HX1 ⊢
  clear hp
  go_wp2_with fail
  refine (DR.out _).mono ?_
  rintro e w3 ⟨y, A2, n2, c2, rfl, hy, hzy, hO, B3⟩
  rw [HEC.out]
  have hxy : x = y := by
    match r with
    | none => rw [HZ.out rfl, hzy rfl]
    | some q => rw [HX.out q rfl, hy q rfl]
  subst hxy
  have hxw : x.wf := by
    match r with
    | none => rw [HZ.out rfl]; exact zeroE_wf
    | some q => rw [HX.out q rfl]; exact HWF.out q rfl
  have hO3 := hO.mono (T := fun b => b < w3.heap.size) (fun k hk => hk.2)
  have hX3 := HX1.out.low B3
  have hY3 := EBox.new w3 x (.slice A2 n2 c2)
  have hBy := (Below.refl w3.heap.size w3).alloc (Nat.le_refl _) (.cells #[.int .i64 x.kind, .int .i64 x.r.p, .int .i64 x.r.q, .int .i64 x.r.a, .string x.r.key, .int .u32 (x.r.val : Nat), .slice A2 n2 c2, .int .i64 x.n] 29)
  have hX4 := hX3.low hBy
  have HB4 := Lib.hid ((HB1.out.trans (B3.mono HB1.out.size)).trans (hBy.mono (HB1.out.trans (B3.mono HB1.out.size)).size))
  have HOX := Lib.hid (OpsAt.on hBy (OpsAt.on B3 HO1.out))
  have HOY := Lib.hid (OpsAt.on hBy hO3)
  have HX4 := Lib.hid hX4
  have HY4 := Lib.hid hY3
  have HXW := Lib.hid hxw
  clear hO hO3 hX3 hY3 hBy hX4 B3 hy hzy HX HZ HB1 HO1 HX1 HWF DR hxw
  go_upto_region 3 with fail
  generalize w3.alloc (.cells #[.int .i64 x.kind, .int .i64 x.r.p, .int .i64 x.r.q, .int .i64 x.r.a, .string x.r.key, .int .u32 (x.r.val : Nat), .slice A2 n2 c2, .int .i64 x.n] 29) = w4 at HB4 HOX HOY HX4 HY4 ⊢
  obtain ⟨q, hq⟩ : ∃ q, w3.heap.size = q := ⟨_, rfl⟩
  rw [hq] at HY4 ⊢
  clear hq
  go_wp2_with fail
  refine (HK.out w4).mono ?_
  rintro e w5 ⟨rfl, B5⟩
  have hX5 := HX4.out.low B5
  have hY5 := HY4.out.low B5
  have CS := Lib.hid (same_calls x x HXW.out (.slice A1 n1 c1) (.slice A2 n2 c2) true ⟨fun _ => rfl, fun _ => rfl⟩ w5 (OpsAt.on B5 HOX.out) (OpsAt.on B5 HOY.out))
  have HB5 := Lib.hid (HB4.out.trans (B5.mono HB4.out.size))
  obtain ⟨a0, a1, a2, a3, a4, a5, a6, a7⟩ := hX5.cells
  obtain ⟨d0, d1, d2, d3, d4, d5, d6, d7⟩ := hY5.cells
  clear B5 hX5 hY5 HX4 HY4 HOX HOY HB4 HK
  go_wp2_with fail
  refine CS.out.mono ?_
  rintro e w6 ⟨rfl, B6⟩
  have HB6 := Lib.hid (HB5.out.trans (B6.mono HB5.out.size))
  clear B6 HB5 CS a0 a1 a2 a3 a4 a5 a6 a7 d0 d1 d2 d3 d4 d5 d6 d7
  go_wp2_with fail
  go_ret
  exact ⟨rfl, HB6.out⟩

end Go.Proofs.Ytffehnojcajhiaa.Wire.Entry

namespace Go.Proofs.Ytffehnojcajhiaa.entryDecodes
open Go Go.ChangeShapes Go.WideShapes Go.ChangeAt Go.RowKit Go.Proofs.Ytffehnojcajhiaa.Law Go.Proofs.Ytffehnojcajhiaa.Wire Go.Proofs.Ytffehnojcajhiaa.Wire.Entry

theorem own : ownKnob Try.prog.godebug = none := by kernel_rfl
theorem laidOut : laidOutB Try.prog = true := by kernel_rfl

set_option maxRecDepth 100000 in
theorem lifted (os : Os) (started : os.Started) (H : Type) (enc : TypeId × Value → H) :
    ReturnsInHanded {} Try.checked os 4 .any (Rows.entryDecodesSpec.pre6 enc Try.prog Try.f4 Rows.entryDecodesRow.domain false) (Rows.entryDecodesSpec.post enc Try.prog Try.f4 false true false false) := by
  refine returnsInHanded_of_change_sized (C := Try.checked) own started (by kernel_rfl) Try.func4
    (ChangeSpec.witness6 (enc := enc) (C := Try.checked) false ⟨#[], #[.string ⟨#[]⟩], []⟩ 8 (by kernel_rfl) (by kernel_rfl) (by kernel_rfl) (by kernel_rfl)) ?_
  intro W base args ds gs before hval0 hW _ hsz0 _
  have hreach' : (DataW.weightsEach Try.prog (Try.f4.params.toList ++ []) (ds ++ gs)).all (· ≤ reachBytes) = true := hsz0
  have hval : ∀ (j : Nat) t v, Try.f4.params[j]? = some t → args[j]? = some v → Value.okWide Try.prog W .any base t v := hval0
  have hW0 := hW
  obtain ⟨p, q, hA0, hV, rfl, hfz, hnd⟩ := hW
  have hA : DataW.TrodAll enc Try.prog W 0 (fun _ => true) true Try.f4.params.toList args.toList ds p := hA0
  rw [Try.params4] at hA hval hreach'
  have hV' : DataW.TrodVars enc Try.prog W (fun _ => true) [] gs q := hV
  obtain ⟨rfl, rfl⟩ := trodVars_none hV'
  clear hsz0 hA0 hval0
  obtain ⟨v0, vs0, d0, ds0, p0, q0, hargs, rfl, rfl, h0, r0⟩ := trodAll_cons hA
  obtain ⟨rfl, rfl, rfl⟩ := trodAll_nil r0
  obtain rfl : args = #[v0] := by cases args; simp_all
  have hpost : ∀ (e : Ending) (W' : World), e = .returned (.bool true) ∧ Below W.heap.size W W' → ∃ v, e = .returned v ∧ Rows.entryDecodesSpec.post enc Try.prog Try.f4 false true false false W #[v0] v W' := fun e W' ⟨he, hB⟩ =>
    ⟨_, he, law_post laidOut (by kernel_rfl) rfl Try.underlying4 rfl hW0 rfl hB⟩
  refine Calls.mono ?_ hpost
  simp only [DataW.weightsEach, List.append_nil] at hreach'
  have hw0 := hreach'
  obtain ⟨s0, rfl, rfl, rfl, ws0⟩ := Go.ChangeMaps.open_string Try.underlying9 (hval 0 9 v0 rfl rfl) h0
  have hs0 : s0.size ≤ 140737488351232 := by
    have h := List.all_eq_true.1 hw0 s0.data.toList.length (by simp [DataW.weights])
    rw [Array.length_toList] at h
    exact of_decide_eq_true h
  exact entryDecodes_law s0 hs0 W

theorem holds : Rows.EntryDecodesSaid :=
  OpenClaim.holds_of_wide 4 Try.f4 rfl rfl rfl rfl rfl rfl rfl ⟨rfl, rfl, rfl, rfl, rfl⟩ rfl rfl rfl rfl rfl (by kernel_rfl) Try.func4 (by kernel_rfl)
    (of_decide_eq_true (by kernel_rfl)) (by unfold Func.isWrapper; first | (rw [if_pos (by decide +kernel)]; kernel_rfl) | (rw [if_neg (by decide +kernel)]; exact ⟨rfl, rfl⟩))
    (fun os started H enc _ => lifted os started H enc)
end Go.Proofs.Ytffehnojcajhiaa.entryDecodes
