/-
  The statement 'EntryApartSaid' is proved: for every input that the row admits the law returns true and each argument reads as it read before. Conditions: the form's own reach.
-/
import Derived.Test.YthdohijkcnianaaEgJ
import Derived.Test.YthdohijkcnianaaEgK
import Derived.Test.YthdohijkcnianaaRows
import Derived.Test.YthdohijkcnianaaEgB
import Derived.ProofKit
import Derived.SizedLaws
namespace Go.Proofs.Ythdohijkcnianaa.Wire.Entry
open Go Go.RowKit Go.Proofs.Ythdohijkcnianaa.Law

mutual
theorem bytes_lt : ∀ x : Item, x.sized → ∀ z ∈ x.bytes, z < 256
  | .mk k n s l => fun h z hz => by
    rw [Item.bytes] at hz
    rcases List.mem_cons.1 hz with rfl | hz
    · omega
    · rcases List.mem_append.1 hz with hz | hz
      · exact num_lt (no_lt h) z hz
      · rcases List.mem_append.1 hz with hz | hz
        · exact sb_lt s z hz
        · exact bytesL_lt l (sized_kids h) z hz
theorem bytesL_lt : ∀ l : List Item, sizedL l → ∀ z ∈ bytesL l, z < 256
  | [], _, z, hz => by rw [bytesL] at hz; cases hz
  | x :: r, h, z, hz => by
    rw [sizedL] at h
    rw [bytesL] at hz
    rcases List.mem_append.1 hz with hz | hz
    · exact bytes_lt x h.1 z hz
    · exact bytesL_lt r h.2 z hz
end
theorem encE_lt {e : Ent} (hw : e.wf) : ∀ z ∈ (encE e).1, z < 256 := by
  intro z hz
  unfold encE at hz
  split at hz
  · unfold encN at hz
    split at hz
    · cases hz
    · split at hz
      · cases hz
      · exact bytesL_lt _ (msg_sized hw) z hz
  · cases hz
theorem encE_none {e : Ent} (h : (encE e).2 ≠ 0) : (encE e).1 = [] := by
  unfold encE at h ⊢
  split
  · rename_i hg
    rw [if_pos hg] at h
    unfold encN at h ⊢
    split
    · rfl
    · rename_i hc
      rw [if_neg hc] at h
      split
      · rfl
      · rename_i hl
        rw [if_neg hl] at h
        exact absurd rfl h
  · rfl
set_option maxRecDepth 100000 in
set_option maxHeartbeats 4000000 in
theorem entryApart_law (a b : Ent) (ha : a.wf) (hb : b.wf) (u v : Value) (w : World) (hI : OldO w.heap.size w u a.ops) (hJ : OldO w.heap.size w v b.ops) :
    Calls Try.prog 7 #[entV a u, entV b v] w (RetB w true) := by
  have hB0 := below2 w (.cells #[.int .i64 a.kind, .int .i64 a.r.p, .int .i64 a.r.q, .int .i64 a.r.a, .string a.r.key, .int .u32 (a.r.val : Nat), u, .int .i64 a.n] 29) (.cells #[.int .i64 b.kind, .int .i64 b.r.p, .int .i64 b.r.q, .int .i64 b.r.a, .string b.r.key, .int .u32 (b.r.val : Nat), v, .int .i64 b.n] 29)
  have hx1 := (EBox.new w a u).low ((Below.refl _ _).alloc (Nat.le_refl _) (.cells #[.int .i64 b.kind, .int .i64 b.r.p, .int .i64 b.r.q, .int .i64 b.r.a, .string b.r.key, .int .u32 (b.r.val : Nat), v, .int .i64 b.n] 29))
  have hy1 := EBox.new (w.alloc (.cells #[.int .i64 a.kind, .int .i64 a.r.p, .int .i64 a.r.q, .int .i64 a.r.a, .string a.r.key, .int .u32 (a.r.val : Nat), u, .int .i64 a.n] 29)) b v
  rw [World.size_alloc] at hy1
  obtain ⟨⟨xs, ea⟩, hRa⟩ : ∃ R, encE a = R := ⟨_, rfl⟩
  obtain ⟨⟨ys, eb⟩, hRb⟩ : ∃ R, encE b = R := ⟨_, rfl⟩
  have CA : Hid (∀ W, Below w.heap.size w W → Calls Try.prog 8 #[entV a u] W (RetText W (xs, ea))) := Lib.hid fun W hW => by
    have := encodeE_calls a ha u W (OpsAt.on hW hI)
    rwa [hRa] at this
  have CB : Hid (∀ W, Below w.heap.size w W → Calls Try.prog 8 #[entV b v] W (RetText W (ys, eb))) := Lib.hid fun W hW => by
    have := encodeE_calls b hb v W (OpsAt.on hW hJ)
    rwa [hRb] at this
  obtain ⟨g, hg⟩ := exB (a = b)
  have CS : Hid (∀ W, Below w.heap.size w W → Calls Try.prog 15 #[entV a u, entV b v] W (RetB W g)) := Lib.hid fun W hW => same_calls a b ha u v g hg W (OpsAt.on hW hI) (OpsAt.on hW hJ)
  have hxs : ea ≠ 0 → xs = [] := fun h => by have := encE_none (e := a) (by rw [hRa]; exact h); rwa [hRa] at this
  have hys : eb ≠ 0 → ys = [] := fun h => by have := encE_none (e := b) (by rw [hRb]; exact h); rwa [hRb] at this
  have htext : ea = 0 → eb = 0 → ((str xs).toList == (str ys).toList) = g := fun h1 h2 => by
    have hxl := encE_lt ha
    have hyl := encE_lt hb
    rw [hRa] at hxl
    rw [hRb] at hyl
    by_cases h : a = b
    · obtain rfl : g = true := hg.2 h
      have : xs = ys := by
        have h3 := hRa.symm.trans ((by rw [h] : encE a = encE b).trans hRb)
        simp only [Prod.mk.injEq] at h3
        exact h3.1
      rw [this]; simp
    · obtain rfl : g = false := b_false hg h
      refine (Lib.bytes_beq_false_iff _ _).2 fun e => h ?_
      have he : xs = ys := str_inj hxl hyl e
      exact encE_inj ha hb (by rw [hRa]; exact h1) (by rw [hRb]; exact h2) (by rw [hRa, hRb]; exact he)
  have HXS := Lib.hid hxs
  have HYS := Lib.hid hys
  have HT := Lib.hid htext
  have HB0 := Lib.hid hB0
  have HX1 := Lib.hid hx1
  have HY1 := Lib.hid hy1
  clear hB0 hx1 hy1 hRa hRb hg hxs hys htext hI hJ ha hb
  go_enter Try.func7, Try.ntmps7
  go_upto_region 1 with fail
  have hx1 := HX1.out
  have hy1 := HY1.out
  have hB0 := HB0.out
  clear HX1 HY1 HB0
  generalize ((w.alloc (.cells #[.int .i64 a.kind, .int .i64 a.r.p, .int .i64 a.r.q, .int .i64 a.r.a, .string a.r.key, .int .u32 (a.r.val : Nat), u, .int .i64 a.n] 29)).alloc (.cells #[.int .i64 b.kind, .int .i64 b.r.p, .int .i64 b.r.q, .int .i64 b.r.a, .string b.r.key, .int .u32 (b.r.val : Nat), v, .int .i64 b.n] 29)) = w1 at hx1 hy1 hB0 ⊢
  obtain ⟨a0, a1, a2, a3, a4, a5, a6, a7⟩ := hx1.cells
  have HX1 := Lib.hid hx1
  have HY1 := Lib.hid hy1
  have HB1 := Lib.hid hB0
  clear hx1 hy1 hB0
  go_wp2_with fail
  refine (CA.out _ HB1.out).mono ?_
  rintro e w2 ⟨rfl, hB2⟩
  have HX2 := Lib.hid (HX1.out.low hB2)
  have HY2 := Lib.hid (HY1.out.low hB2)
  have HB2 := Lib.hid (HB1.out.trans (hB2.mono HB1.out.size))
  obtain ⟨d0, d1, d2, d3, d4, d5, d6, d7⟩ := HY2.out.cells
  clear hB2 a0 a1 a2 a3 a4 a5 a6 a7 HX1 HY1 HB1 CA
  go_wp2_with fail
  refine (CB.out _ HB2.out).mono ?_
  rintro e w3 ⟨rfl, hB3⟩
  have HX3 := Lib.hid (HX2.out.low hB3)
  have HY3 := Lib.hid (HY2.out.low hB3)
  have HB3 := Lib.hid (HB2.out.trans (hB3.mono HB2.out.size))
  have HK := Lib.hid (known_calls w3)
  simp only
  clear hB3 d0 d1 d2 d3 d4 d5 d6 d7 HX2 HY2 HB2 CB
  by_cases hea : ea = 0
  · subst hea
    by_cases heb : eb = 0
    · subst heb
      have htx := HT.out rfl rfl
      clear HT HXS HYS
      go_wp2_with fail
      refine HK.out.mono ?_
      rintro e w4 ⟨rfl, hB4⟩
      have HB4 := Lib.hid (HB3.out.trans (hB4.mono HB3.out.size))
      obtain ⟨a0, a1, a2, a3, a4, a5, a6, a7⟩ := (HX3.out.low hB4).cells
      obtain ⟨d0, d1, d2, d3, d4, d5, d6, d7⟩ := (HY3.out.low hB4).cells
      clear hB4 HB3 HX3 HY3 HK
      go_wp2_with fail
      refine (CS.out _ HB4.out).mono ?_
      rintro e w5 ⟨rfl, hB5⟩
      have HB5 := Lib.hid (HB4.out.trans (hB5.mono HB4.out.size))
      have hqq : (g == g) = true := by cases g <;> rfl
      clear hB5 HB4 CS a0 a1 a2 a3 a4 a5 a6 a7 d0 d1 d2 d3 d4 d5 d6 d7
      go_wp2_with fail
      go_ret
      exact ⟨rfl, HB5.out⟩
    · obtain rfl := HYS.out heb
      simp only [str_nil]
      have hebI : ¬ (eb : Int) = 0 := by omega
      clear HT HXS HYS CS
      go_wp2_with fail
      refine HK.out.mono ?_
      rintro e w4 ⟨rfl, hB4⟩
      have HB4 := Lib.hid (HB3.out.trans (hB4.mono HB3.out.size))
      clear hB4 HB3 HX3 HY3 HK
      go_wp2_with fail
      go_ret
      exact ⟨rfl, HB4.out⟩
  · obtain rfl := HXS.out hea
    simp only [str_nil]
    have heaI : ¬ (ea : Int) = 0 := by omega
    by_cases heb : eb = 0
    · subst heb
      clear HT HXS HYS CS
      go_wp2_with fail
      refine HK.out.mono ?_
      rintro e w4 ⟨rfl, hB4⟩
      have HB4 := Lib.hid (HB3.out.trans (hB4.mono HB3.out.size))
      clear hB4 HB3 HX3 HY3 HK
      go_wp2_with fail
      go_ret
      exact ⟨rfl, HB4.out⟩
    · obtain rfl := HYS.out heb
      simp only [str_nil]
      have hebI : ¬ (eb : Int) = 0 := by omega
      clear HT HXS HYS CS
      go_wp2_with fail
      refine HK.out.mono ?_
      rintro e w4 ⟨rfl, hB4⟩
      have HB4 := Lib.hid (HB3.out.trans (hB4.mono HB3.out.size))
      clear hB4 HB3 HX3 HY3 HK
      go_wp2_with fail
      go_ret
      exact ⟨rfl, HB4.out⟩

end Go.Proofs.Ythdohijkcnianaa.Wire.Entry

namespace Go.Proofs.Ythdohijkcnianaa.entryApart
open Go Go.ChangeShapes Go.WideShapes Go.ChangeAt Go.RowKit Go.Proofs.Ythdohijkcnianaa.Law Go.Proofs.Ythdohijkcnianaa.Wire Go.Proofs.Ythdohijkcnianaa.Wire.Entry

theorem own : ownKnob Try.prog.godebug = none := by kernel_rfl
theorem laidOut : laidOutB Try.prog = true := by kernel_rfl

set_option maxRecDepth 100000 in
theorem lifted (os : Os) (started : os.Started) (H : Type) (enc : TypeId × Value → H) :
    ReturnsInHanded {} Try.checked os 7 .any (Rows.entryApartSpec.pre6 enc Try.prog Try.f7 Rows.entryApartRow.domain false) (Rows.entryApartSpec.post enc Try.prog Try.f7 false true false false) := by
  refine returnsInHanded_of_change_sized (C := Try.checked) own started (by kernel_rfl) Try.func7
    (ChangeSpec.witness6 (enc := enc) (C := Try.checked) false ⟨#[], #[.agg #[.int .i64 0, .int .i64 0, .int .i64 0, .int .i64 0, .string ⟨#[]⟩, .int .u32 0, .slice none 0 0, .int .i64 0], .agg #[.int .i64 0, .int .i64 0, .int .i64 0, .int .i64 0, .string ⟨#[]⟩, .int .u32 0, .slice none 0 0, .int .i64 0]], []⟩ 8 (by kernel_rfl) (by kernel_rfl) (by kernel_rfl) (by kernel_rfl)) ?_
  intro W base args ds gs before hval0 hW _ hsz0 _
  have hreach' : (DataW.weightsEach Try.prog (Try.f7.params.toList ++ []) (ds ++ gs)).all (· ≤ reachBytes) = true := hsz0
  have hval : ∀ (j : Nat) t v, Try.f7.params[j]? = some t → args[j]? = some v → Value.okWide Try.prog W .any base t v := hval0
  have hW0 := hW
  obtain ⟨p, q, hA0, hV, rfl, hfz, hnd⟩ := hW
  have hA : DataW.TrodAll enc Try.prog W 0 (fun _ => true) true Try.f7.params.toList args.toList ds p := hA0
  rw [Try.params7] at hA hval hreach'
  have hV' : DataW.TrodVars enc Try.prog W (fun _ => true) [] gs q := hV
  obtain ⟨rfl, rfl⟩ := trodVars_none hV'
  clear hsz0 hA0 hval0
  obtain ⟨v0, vs0, d0, ds0, p0, q0, hargs, rfl, rfl, h0, r0⟩ := trodAll_cons hA
  obtain ⟨v1, vs1, d1, ds1, p1, q1, rfl, rfl, rfl, h1, r1⟩ := trodAll_cons r0
  obtain ⟨rfl, rfl, rfl⟩ := trodAll_nil r1
  obtain rfl : args = #[v0, v1] := by cases args; simp_all
  have hpost : ∀ (e : Ending) (W' : World), e = .returned (.bool true) ∧ Below W.heap.size W W' → ∃ v, e = .returned v ∧ Rows.entryApartSpec.post enc Try.prog Try.f7 false true false false W #[v0, v1] v W' := fun e W' ⟨he, hB⟩ =>
    ⟨_, he, law_post laidOut (by kernel_rfl) rfl Try.underlying4 rfl hW0 rfl hB⟩
  refine Calls.mono ?_ hpost
  simp only [DataW.weightsEach, List.append_nil, List.all_append, Bool.and_eq_true] at hreach'
  obtain ⟨hw0, hw1⟩ := hreach'
  obtain ⟨x0, u0, rfl, hI0, hF0⟩ := open_ent (hval 0 29 v0 rfl rfl) h0 hw0
  obtain ⟨x1, u1, rfl, hI1, hF1⟩ := open_ent (hval 1 29 v1 rfl rfl) h1 hw1
  exact entryApart_law x0 x1 hF0 hF1 u0 u1 W hI0 hI1

theorem holds : Rows.EntryApartSaid :=
  OpenClaim.holds_of_wide 7 Try.f7 rfl rfl rfl rfl rfl rfl rfl ⟨rfl, rfl, rfl, rfl, rfl⟩ rfl rfl rfl rfl rfl (by kernel_rfl) Try.func7 (by kernel_rfl)
    (of_decide_eq_true (by kernel_rfl)) (by unfold Func.isWrapper; first | (rw [if_pos (by decide +kernel)]; kernel_rfl) | (rw [if_neg (by decide +kernel)]; exact ⟨rfl, rfl⟩))
    (fun os started H enc _ => lifted os started H enc)
end Go.Proofs.Ythdohijkcnianaa.entryApart
