/-
  Contract of the document's Encode of an entry.
-/
import Derived.Test.YtffehnojcajhiaaEgM
import Derived.Test.YtffehnojcajhiaaEgJ
import Derived.Test.YtffehnojcajhiaaEgX
namespace Go.Proofs.Ytffehnojcajhiaa.Wire.Entry
open Go Go.RowKit Go.Proofs.Ytffehnojcajhiaa.Law

/-- Every entry in form that isn't empty. -/
theorem items_calls (e : Ent) (hw : e.wf) (hg : e.good) (hk : e.kind ≠ 0) (u : Value) (w : World) (h : OldO w.heap.size w u e.ops) : Calls Try.prog 20 #[entV e u] w (RetRead w (msg e)) := by
  obtain ⟨k, r, ops, n⟩ := e
  rcases hg with ⟨h1, h2, h3, h4⟩ | ⟨h1, h2, h3, h4⟩ | ⟨h1, h2, h3, h4⟩ | ⟨h1, h2, h3, h4⟩
  · exact absurd h1 hk
  · simp only at h1 h2 h3 h4
    subst h1
    exact rec_items r hw.2.1.2.2.2.2 ops n u w
  · simp only at h1 h2 h3 h4
    subst h1
    exact deploy_items ops hw.2.2.1 h3 r n u w h
  · simp only at h1 h2 h3 h4
    subst h3
    have hm : msg ⟨k, r, [], n⟩ = [iI k, iI n] := by
      unfold msg
      simp only
      rw [if_neg (by omega), if_neg (by omega), if_neg (by omega)]
    rw [hm]
    exact num_items k n h1 r u w

theorem encN_nil : encN [] = ([], 0) := by decide +kernel

set_option maxRecDepth 100000 in
set_option maxHeartbeats 2000000 in
theorem refEncodeE_calls (e : Ent) (hw : e.wf) (u : Value) (w : World) (h : OldO w.heap.size w u e.ops) : Calls Try.prog 9 #[entV e u] w (RetText w (encE e)) := by
  obtain ⟨g, hg⟩ := exB e.good
  obtain ⟨⟨bs, er⟩, hR⟩ : ∃ R, encE e = R := ⟨_, rfl⟩
  rw [hR]
  have HR := Lib.hid hR
  obtain ⟨b, hb⟩ : ∃ b, w.heap.size = b := ⟨_, rfl⟩
  have hB0 := (Below.refl w.heap.size w).alloc (Nat.le_refl _) (.cells #[.int .i64 e.kind, .int .i64 e.r.p, .int .i64 e.r.q, .int .i64 e.r.a, .string e.r.key, .int .u32 (e.r.val : Nat), u, .int .i64 e.n] 29)
  have CG := Lib.hid (refGood_calls e hw u _ (OpsAt.on hB0 h) g hg)
  have HG := Lib.hid hg
  have HB0 := Lib.hid hB0
  have hE0 := EBox.new w e u
  rw [hb] at hE0
  have HE0 := Lib.hid hE0
  have hs0 : (w.alloc (.cells #[.int .i64 e.kind, .int .i64 e.r.p, .int .i64 e.r.q, .int .i64 e.r.a, .string e.r.key, .int .u32 (e.r.val : Nat), u, .int .i64 e.n] 29)).heap.size = b + 1 := by simp [hb]
  have HS0 := Lib.hid hs0
  have HO := Lib.hid h
  have HW := Lib.hid hw
  have HBB := Lib.hid hb
  clear hR hg hB0 hE0 hs0 h hw hb
  go_enter Try.func9, Try.ntmps9
  go_wp2_with fail
  refine CG.out.mono ?_
  rintro e0 w1 ⟨rfl, B1⟩
  have hs1 : b < w1.heap.size := by have := B1.size; rw [HS0.out] at this; omega
  have hE1 := HE0.out.low B1
  have hB1 : Below w.heap.size w w1 := HB0.out.trans (B1.mono (by simp))
  have HB1 := Lib.hid hB1
  have HE1 := Lib.hid hE1
  clear B1 hE1 hB1 CG HB0 HE0 HS0
  rw [HBB.out]
  cases g with
  | false =>
    have hR := (encE_bad fun h => absurd (HG.out.2 h) (by decide)).symm.trans HR.out
    simp only [Prod.mk.injEq] at hR
    obtain ⟨rfl, rfl⟩ := hR
    clear HG
    go_wp2_with fail
    go_ret2
    exact ⟨rfl, HB1.out⟩
  | true =>
    have hgood := HG.out.1 rfl
    have hR : encN (msg e) = (bs, er) := (encE_good hgood).symm.trans HR.out
    obtain ⟨c0, c1, c2, c3, c4, c5, c6, c7⟩ := HE1.out.cells
    by_cases hk : e.kind = 0
    · have hm : msg e = [] := by unfold msg; rw [if_pos hk]
      rw [hm, encN_nil] at hR
      simp only [Prod.mk.injEq] at hR
      obtain ⟨rfl, rfl⟩ := hR
      rw [hk] at c0
      clear hgood HG HR
      go_wp2_with fail
      go_ret2
      exact ⟨rfl, HB1.out⟩
    · have hkb : (e.kind == 0) = false := beq_eq_false_iff_ne.2 hk
      have HR2 := Lib.hid hR
      have CM := Lib.hid (items_calls e HW.out hgood hk u w1 (OpsAt.on HB1.out HO.out))
      clear hR hgood HG hk
      go_wp2_with fail
      refine CM.out.mono ?_
      rintro e0 w2 ⟨v2, rfl, hF, hB2⟩
      have cE := refencode_calls (msg e) (msg_sized HW.out) (by have := msg_length e; omega) v2 w2 hF
      rw [HR2.out] at cE
      have CE := Lib.hid cE
      have HB2 := Lib.hid (HB1.out.trans (hB2.mono HB1.out.size))
      clear hF hB2 cE CM c0 c1 c2 c3 c4 c5 c6 c7 HB1 HE1
      go_wp2_with fail
      refine CE.out.mono ?_
      rintro e0 w3 ⟨v3, rfl, hO, hB⟩
      have hcv := run_string_bytes (P := Try.prog) w3 Try.underlying48 Try.underlying5 Try.underlying9 hO.bytes
      have HB3 := Lib.hid (HB2.out.trans (hB.mono HB2.out.size))
      clear hO hB HB2 CE
      go_wp2_with fail
      go_ret2
      exact ⟨rfl, HB3.out⟩

end Go.Proofs.Ytffehnojcajhiaa.Wire.Entry
