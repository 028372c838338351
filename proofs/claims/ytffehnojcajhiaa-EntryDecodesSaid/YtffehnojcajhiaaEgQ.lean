/-
  The walk of the law EntryBack. Contract of guess for every row of items; of the document's Decode.
-/
import Derived.Test.YtffehnojcajhiaaEgJ
import Derived.Test.YtffehnojcajhiaaEgK
import Derived.Test.YtffehnojcajhiaaEgP
import Derived.Test.YtffehnojcajhiaaEgO
namespace Go.Proofs.Ytffehnojcajhiaa.Wire.Entry
open Go Go.RowKit Go.Proofs.Ytffehnojcajhiaa.Law

mutual
theorem byteB_lt : ∀ x : Item, x.sized → ∀ z ∈ x.bytes, z < 256
  | .mk k n s l => fun h z hz => by
    rw [Item.bytes] at hz
    rcases List.mem_cons.1 hz with rfl | hz
    · omega
    · rcases List.mem_append.1 hz with hz | hz
      · exact num_lt (no_lt h) z hz
      · rcases List.mem_append.1 hz with hz | hz
        · exact sb_lt s z hz
        · exact byteBL_lt l (sized_kids h) z hz
theorem byteBL_lt : ∀ l : List Item, sizedL l → ∀ z ∈ bytesL l, z < 256
  | [], _, z, hz => by rw [bytesL] at hz; cases hz
  | x :: r, h, z, hz => by
    rw [sizedL] at h
    rw [bytesL] at hz
    rcases List.mem_append.1 hz with hz | hz
    · exact byteB_lt x h.1 z hz
    · exact byteBL_lt r h.2 z hz
end
theorem encE_lt2 {e : Ent} (hw : e.wf) : (∀ z ∈ (encE e).1, z < 256) ∧ (encE e).1.length ≤ 65536 := by
  unfold encE
  split
  · unfold encN
    split
    · exact ⟨fun _ h => (by cases h), by simp⟩
    · rename_i h1
      split
      · exact ⟨fun _ h => (by cases h), by simp⟩
      · rename_i h2
        have hd : (encN (msg e)).2 = 0 := by
          unfold encN
          rw [if_neg h1, if_neg h2]
        exact ⟨byteBL_lt _ (msg_sized hw), by dsimp only; omega⟩
  · exact ⟨fun _ h => (by cases h), by simp⟩

theorem zeroE_wf : zeroE.wf := ⟨⟨by decide, by decide⟩, ⟨⟨by decide, by decide⟩, ⟨by decide, by decide⟩, ⟨by decide, by decide⟩, by decide, by decide⟩, by simp [zeroE], by simp [zeroE], ⟨by decide, by decide⟩⟩
theorem decE_wf {bs : List Nat} {e : Ent} (hb : ∀ x ∈ bs, x < 256) (h : decE bs = some e) : e.wf := by
  obtain ⟨l, h1, h2, _⟩ := decE_some h
  exact dec_wf hb h1 h2

set_option maxRecDepth 100000 in
set_option maxHeartbeats 4000000 in
theorem entryBack_law (a : Ent) (ha : a.wf) (s : ByteArray) (hs : s.size ≤ 140737488351232) (u : Value) (w : World) (hI : OldO w.heap.size w u a.ops) :
    Calls Try.prog 5 #[entV a u, .string s] w (RetB w true) := by
  have hE0 := EBox.new w a u
  have hB0 := (Below.refl w.heap.size w).alloc (Nat.le_refl _) (.cells #[.int .i64 a.kind, .int .i64 a.r.p, .int .i64 a.r.q, .int .i64 a.r.a, .string a.r.key, .int .u32 (a.r.val : Nat), u, .int .i64 a.n] 29)
  have HI := Lib.hid hI
  obtain ⟨⟨xs, ea⟩, hRa⟩ : ∃ R, encE a = R := ⟨_, rfl⟩
  obtain ⟨r, hr⟩ : ∃ r, decE (sb s) = r := ⟨_, rfl⟩
  have hxl := encE_lt2 ha
  rw [hRa] at hxl
  have CA : Hid (∀ W, Below w.heap.size w W → Calls Try.prog 8 #[entV a u] W (RetText W (xs, ea))) := Lib.hid fun W hW => by
    have := encodeE_calls a ha u W (OpsAt.on hW hI)
    rwa [hRa] at this
  have DA : Hid (ea = 0 → ∀ W, Calls Try.prog 13 #[.string (str xs)] W (RetDec W (some a))) := Lib.hid fun h W => by
    have h1 := decE_enc ha (by rw [hRa]; exact h)
    rw [hRa] at h1
    have := decodeE_calls (str xs) (by have := sb_length (str xs); rw [sb_str hxl.1] at this; have := hxl.2; omega) W
    rwa [sb_str hxl.1, h1] at this
  have SA : Hid (∀ (v : Value) W, Below w.heap.size w W → OldO W.heap.size W v a.ops → Calls Try.prog 15 #[entV a u, entV a v] W (RetB W true)) := Lib.hid fun v W hW hv => same_calls a a ha u v true ⟨fun _ => rfl, fun _ => rfl⟩ W (OpsAt.on hW hI) hv
  have DS : Hid (∀ W, Calls Try.prog 13 #[.string s] W (RetDec W r)) := Lib.hid fun W => by
    have := decodeE_calls s hs W
    rwa [hr] at this
  have SZ : Hid (∀ (v : Value) W, OldO W.heap.size W v zeroE.ops → Calls Try.prog 15 #[entV zeroE v, entV zeroE (.slice none 0 0)] W (RetB W true)) := Lib.hid fun v W hv => same_calls zeroE zeroE zeroE_wf v (.slice none 0 0) true ⟨fun _ => rfl, fun _ => rfl⟩ W hv (OpsAt.nil _ _)
  have CS : Hid (∀ y, r = some y → ∀ (v : Value) W, OldO W.heap.size W v y.ops → Calls Try.prog 8 #[entV y v] W (RetText W (sb s, 0))) := Lib.hid fun y hy v W hv => by
    rw [hy] at hr
    have := encodeE_calls y (decE_wf (sb_lt s) hr) v W hv
    rwa [encE_dec (sb_lt s) hr] at this
  have HE := Lib.hid hE0
  have HB := Lib.hid hB0
  have HK := Lib.hid known_calls
  clear hI hRa hr hxl hE0 hB0 ha hs
  go_enter Try.func5, Try.ntmps5
  go_wp2_with fail
  generalize w.alloc (.cells #[.int .i64 a.kind, .int .i64 a.r.p, .int .i64 a.r.q, .int .i64 a.r.a, .string a.r.key, .int .u32 (a.r.val : Nat), u, .int .i64 a.n] 29) = w0 at HE HB ⊢
  refine (HK.out w0).mono ?_
  rintro e w1 ⟨rfl, B1⟩
  have HE1 := Lib.hid (HE.out.low B1)
  have HB1 := Lib.hid (HB.out.trans (B1.mono HB.out.size))
  obtain ⟨a0, a1, a2, a3, a4, a5, a6, a7⟩ := HE1.out.cells
  clear B1 HB HE HK
  go_wp2_with fail
  refine (CA.out _ HB1.out).mono ?_
  rintro e w2 ⟨rfl, B2⟩
  have HE2 := Lib.hid (HE1.out.low B2)
  have HB2 := Lib.hid (HB1.out.trans (B2.mono HB1.out.size))
  clear B2 HB1 HE1 CA a0 a1 a2 a3 a4 a5 a6 a7
  simp only
  by_cases hea : ea = 0
  · have DA' := Lib.hid (DA.out hea)
    subst hea
    clear DA
    go_wp2_with fail
    refine (DA'.out _).mono ?_
    rintro e w3 ⟨x, A, n, c, rfl, hx, _, hO, B3⟩
    obtain rfl : a = x := (hx a rfl).symm
    have hE3 := HE2.out.low B3
    have hB3 := HB2.out.trans (B3.mono HB2.out.size)
    have hY := EBox.new w3 a (.slice A n c)
    have hBy := (Below.refl w3.heap.size w3).alloc (Nat.le_refl _) (.cells #[.int .i64 a.kind, .int .i64 a.r.p, .int .i64 a.r.q, .int .i64 a.r.a, .string a.r.key, .int .u32 (a.r.val : Nat), .slice A n c, .int .i64 a.n] 29)
    have hE4 := hE3.low hBy
    have HB4 := Lib.hid (hB3.trans (hBy.mono hB3.size))
    have HV4 := Lib.hid (OpsAt.on hBy (hO.mono (fun k hk => hk.2)))
    obtain ⟨a0, a1, a2, a3, a4, a5, a6, a7⟩ := hE4.cells
    obtain ⟨d0, d1, d2, d3, d4, d5, d6, d7⟩ := hY.cells
    clear hE3 hB3 hY hBy hE4 hO B3 hx DA' HE2 HB2
    go_wp2_with fail
    refine (SA.out _ _ HB4.out HV4.out).mono ?_
    rintro e w5 ⟨rfl, B5⟩
    have HB5 := Lib.hid (HB4.out.trans (B5.mono HB4.out.size))
    clear B5 HB4 HV4 a0 a1 a2 a3 a4 a5 a6 a7 d0 d1 d2 d3 d4 d5 d6 d7 SA
    go_wp2_with fail
    refine (DS.out _).mono ?_
    rintro e w6 ⟨x, A2, n2, c2, rfl, hx, hz, hO, B6⟩
    have hB6 := HB5.out.trans (B6.mono HB5.out.size)
    have hO6 := hO.mono (fun k hk => hk.2)
    have hY := EBox.new w6 x (.slice A2 n2 c2)
    have hBy := (Below.refl w6.heap.size w6).alloc (Nat.le_refl _) (.cells #[.int .i64 x.kind, .int .i64 x.r.p, .int .i64 x.r.q, .int .i64 x.r.a, .string x.r.key, .int .u32 (x.r.val : Nat), .slice A2 n2 c2, .int .i64 x.n] 29)
    have HB7 := Lib.hid (hB6.trans (hBy.mono hB6.size))
    have HV7 := Lib.hid (OpsAt.on hBy hO6)
    obtain ⟨d0, d1, d2, d3, d4, d5, d6, d7⟩ := hY.cells
    clear hB6 hY hBy hO hO6 B6 DS HB5
    match r with
    | none =>
      obtain rfl := hz rfl
      go_wp2_with fail
      refine (SZ.out _ _ HV7.out).mono ?_
      rintro e w8 ⟨rfl, B8⟩
      have HB8 := Lib.hid (HB7.out.trans (B8.mono HB7.out.size))
      clear B8 HB7 HV7 d0 d1 d2 d3 d4 d5 d6 d7
      go_wp2_with fail
      go_ret
      exact ⟨rfl, HB8.out⟩
    | some y =>
      obtain rfl := hx y rfl
      go_wp2_with fail
      refine (CS.out _ rfl _ _ HV7.out).mono ?_
      rintro e w8 ⟨rfl, B8⟩
      rw [str_sb]
      have HB8 := Lib.hid (HB7.out.trans (B8.mono HB7.out.size))
      have hss : (s.toList == s.toList) = true := by simp
      clear B8 HB7 HV7 d0 d1 d2 d3 d4 d5 d6 d7
      go_wp2_with fail
      go_ret
      exact ⟨rfl, HB8.out⟩
  · have heaI : ¬ (ea : Int) = 0 := by omega
    have HB5 := Lib.hid HB2.out
    clear SA DA HE2 HB2
    go_wp2_with fail
    refine (DS.out _).mono ?_
    rintro e w6 ⟨x, A2, n2, c2, rfl, hx, hz, hO, B6⟩
    have hB6 := HB5.out.trans (B6.mono HB5.out.size)
    have hO6 := hO.mono (fun k hk => hk.2)
    have hY := EBox.new w6 x (.slice A2 n2 c2)
    have hBy := (Below.refl w6.heap.size w6).alloc (Nat.le_refl _) (.cells #[.int .i64 x.kind, .int .i64 x.r.p, .int .i64 x.r.q, .int .i64 x.r.a, .string x.r.key, .int .u32 (x.r.val : Nat), .slice A2 n2 c2, .int .i64 x.n] 29)
    have HB7 := Lib.hid (hB6.trans (hBy.mono hB6.size))
    have HV7 := Lib.hid (OpsAt.on hBy hO6)
    obtain ⟨d0, d1, d2, d3, d4, d5, d6, d7⟩ := hY.cells
    clear hB6 hY hBy hO hO6 B6 DS HB5
    match r with
    | none =>
      obtain rfl := hz rfl
      go_wp2_with fail
      refine (SZ.out _ _ HV7.out).mono ?_
      rintro e w8 ⟨rfl, B8⟩
      have HB8 := Lib.hid (HB7.out.trans (B8.mono HB7.out.size))
      clear B8 HB7 HV7 d0 d1 d2 d3 d4 d5 d6 d7
      go_wp2_with fail
      go_ret
      exact ⟨rfl, HB8.out⟩
    | some y =>
      obtain rfl := hx y rfl
      go_wp2_with fail
      refine (CS.out _ rfl _ _ HV7.out).mono ?_
      rintro e w8 ⟨rfl, B8⟩
      rw [str_sb]
      have HB8 := Lib.hid (HB7.out.trans (B8.mono HB7.out.size))
      have hss : (s.toList == s.toList) = true := by simp
      clear B8 HB7 HV7 d0 d1 d2 d3 d4 d5 d6 d7
      go_wp2_with fail
      go_ret
      exact ⟨rfl, HB8.out⟩
end Go.Proofs.Ytffehnojcajhiaa.Wire.Entry

namespace Go.Proofs.Ytffehnojcajhiaa.Wire.Entry
open Go Go.RowKit Go.Proofs.Ytffehnojcajhiaa.Law

theorem guess_calls (l : List Item) (hs : nodesL l ≤ 4096) (v : Value) (w : World) (hI : Old w.heap.size w v l) : Calls Try.prog 27 #[v] w (RetGuess w (guessE l)) := by
  by_cases h1 : atL l 0 = 1
  · exact rec_guess l hs h1 v w hI
  · by_cases h3 : atL l 0 = 3
    · exact deploy_guess l hs h3 v w hI
    · exact num_guess l hs h1 h3 v w hI

set_option maxRecDepth 100000 in
set_option maxHeartbeats 4000000 in
theorem refDecodeE_calls (s : ByteArray) (hlen : s.size ≤ 140737488351232) (w : World) : Calls Try.prog 14 #[.string s] w (RetDec w (decE (sb s))) := by
  obtain ⟨b, hb⟩ : ∃ b, w.heap.size = b := ⟨_, rfl⟩
  have hBz : Below w.heap.size w (w.alloc Z8) := (Below.refl _ _).alloc (Nat.le_refl _) Z8
  have hrz := heap_alloc_new w Z8
  rw [hb] at hrz
  have hdt : s.toList = s.data.toList := ByteArray.toList_eq s
  by_cases hemp : s.data.toList = []
  · have hbs : sb s = [] := by unfold sb; rw [hemp]; rfl
    rw [hbs, decE_nil]
    have hse : (s.toList == []) = true := by rw [hdt, hemp]; rfl
    have hne : s.toList.isEmpty = true := by rw [hdt, hemp]; rfl
    clear hdt
    have HBB := Lib.hid hb
    have HBz := Lib.hid hBz
    have HRz := Lib.hid hrz
    have HSz : Hid ((w.alloc Z8).heap.size = b + 1) := Lib.hid (by simp [hb])
    clear hbs hb hBz hrz
    go_enter Try.func14, Try.ntmps14
    go_upto_region 2 with fail
    have hBz := HBz.out
    have hrz := HRz.out
    have hsz := HSz.out
    clear HBz HRz HSz
    rw [HBB.out]
    generalize w.alloc Z8 = w1 at hBz hrz hsz ⊢
    have hbw : b < w1.heap.size := by omega
    have HBz := Lib.hid hBz
    have HRz := Lib.hid hrz
    clear hBz hrz hsz
    obtain ⟨⟨p0, p1, p2, p3, p4, p5, p6, p7⟩, z0, z1, z2, z3, z4, z5, z6, z7⟩ := box8 HRz.out
    go_wp2_with fail
    have hfin := stored8 HRz.out (.int .i64 0) (.int .i64 0) (.int .i64 0) (.int .i64 0) (.string ⟨#[]⟩) (.int .u32 0) (.slice none 0 0) (.int .i64 0)
    have hgr : w1.grownBy _ (some b) := set8_grown (W := w1) (b := b) (.int .i64 0) (.int .i64 0) (.int .i64 0) (.int .i64 0) (.string ⟨#[]⟩) (.int .u32 0) (.slice none 0 0) (.int .i64 0)
    clear p0 p1 p2 p3 p4 p5 p6 p7 z0 z1 z2 z3 z4 z5 z6 z7
    generalize ((((((((w1.setCell ⟨b, 0, none⟩ (.int .i64 0)).setCell ⟨b, 1, none⟩ (.int .i64 0)).setCell ⟨b, 2, none⟩ (.int .i64 0)).setCell ⟨b, 3, none⟩ (.int .i64 0)).setCell ⟨b, 4, none⟩ (.string ⟨#[]⟩)).setCell ⟨b, 5, none⟩ (.int .u32 0)).setCell ⟨b, 6, none⟩ (.slice none 0 0)).setCell ⟨b, 7, none⟩ (.int .i64 0)) = W at hfin hgr ⊢
    obtain ⟨⟨r0, r1, r2, r3, r4, r5, r6, r7⟩, _⟩ := box8 hfin
    have hWB : Below w.heap.size w W := HBz.out.grown hgr (by have := HBz.out.size; omega) (fun k hk => by simp only [Option.some.injEq] at hk; have := HBB.out; omega)
    exact bodyPost_ret (v := .tuple #[.agg #[.int .i64 0, .int .i64 0, .int .i64 0, .int .i64 0, .string ⟨#[]⟩, .int .u32 0, .slice none 0 0, .int .i64 0], .int .i64 0]) (by simp [results, Try.results14, go_sem, r0, r1, r2, r3, r4, r5, r6, r7]) rfl ⟨zeroE, none, 0, 0, rfl, (fun y h => (Option.some.inj h).symm ▸ rfl), (fun h => by cases h), OpsAt.nil _ _, hWB⟩
  · have hse : (s.toList == []) = false := by rw [hdt, beq_eq_false_iff_ne]; exact hemp
    have hne : s.toList.isEmpty = false := by rw [hdt]; cases hq : s.data.toList with | nil => exact absurd hq hemp | cons a r => rfl
    clear hdt
    have hbs : sb s ≠ [] := fun h => hemp (by
      have h1 : s.data.toList.map UInt8.toNat = [] := h
      exact List.map_eq_nil_iff.1 h1)
    obtain ⟨ro, hro⟩ : ∃ r, decE (sb s) = r := ⟨_, rfl⟩
    rw [hro]
    have hcv := Lib.run_convert_string_bytes (P := Try.prog) (w.alloc Z8) 9 48 5 s Try.underlying9 Try.underlying48 Try.underlying5
    have hby := bw_bytes (w.alloc Z8) s
    have hbw := hBz.trans ((bw_below (w.alloc Z8) 5 s).mono (by simp))
    have hbr : (Lib.bytesWorld (w.alloc Z8) 5 s).heap[b]? = some Z8 := ((bw_below (w.alloc Z8) 5 s).block b (by simp [hb])).trans hrz
    have hsz : (Lib.bytesWorld (w.alloc Z8) 5 s).heap.size = b + 2 := by rw [Lib.bytesWorld_size]; simp [hb]
    rw [World.size_alloc, hb] at hcv hby
    generalize Lib.bytesWorld (w.alloc Z8) 5 s = w1 at hcv hby hbw hbr hsz
    generalize grownCap (w.alloc Z8) s.size 0 5 = gc at hcv hby
    have cD := refdecode_calls (sb s) (by rw [sb_length]; omega) _ w1 hby
    obtain ⟨⟨dl, de⟩, hD⟩ : ∃ R, decR (sb s) = R := ⟨_, rfl⟩
    rw [hD] at cD
    have CD := Lib.hid cD
    have HDD := Lib.hid hD
    have HCV := Lib.hid hcv
    have HBW := Lib.hid hbw
    have HBR := Lib.hid hbr
    have HSZ := Lib.hid hsz
    have HRO := Lib.hid hro
    have HBB := Lib.hid hb
    have HBS := Lib.hid hbs
    clear hcv hby hbw hbr hsz hro hlen hD cD hbs hBz hrz hemp
    go_enter Try.func14, Try.ntmps14
    go_wp2_with (refine exec_ran (o := ⟨some 13, _, _, _, _, _⟩) rfl (conv_ran HCV.out) ?_)
    refine CD.out.mono ?_
    rintro e w2 ⟨u, rfl, hB2, hI2⟩
    obtain ⟨Au, cu, rfl, _⟩ := hI2.form
    simp only at hI2 ⊢
    obtain ⟨n, hn⟩ : ∃ n, dl.length = n := ⟨_, rfl⟩
    rw [hn] at hI2 ⊢
    have hbr2 := (hB2.block b (by have := HSZ.out; omega)).trans HBR.out
    have hBw : Below w.heap.size w w2 := HBW.out.trans (hB2.mono HBW.out.size)
    have hs2 : b + 2 ≤ w2.heap.size := by have := hB2.size; have := HSZ.out; omega
    have HBR2 := Lib.hid hbr2
    have HB2 := Lib.hid hBw
    have HI2 := Lib.hid (Items.mono (fun k hk => hk.2) hI2 : Old w2.heap.size w2 (.slice Au n cu) dl)
    have HNN := Lib.hid hn
    have hbw : b < w2.heap.size := by omega
    clear hB2 hI2 CD HCV hbr2 hBw hn HBR HBW
    match hq : decN (sb s) with
    | .error k =>
      have hR := HDD.out.symm.trans (show decR (sb s) = ([], k) by unfold decR; rw [hq]; rfl)
      simp only [Prod.mk.injEq] at hR
      obtain ⟨rfl, rfl⟩ := hR
      have hk0 : de ≠ 0 := decN_err' hq
      obtain rfl : ro = none := by rw [← HRO.out]; exact decE_err hq
      have hkI : ((de : Int) != 0) = true := by rw [bne_iff_ne]; omega
      have hkJ : ¬ (de : Int) = 0 := by omega
      clear hq hk0 HI2
      obtain ⟨⟨p0, p1, p2, p3, p4, p5, p6, p7⟩, z0, z1, z2, z3, z4, z5, z6, z7⟩ := box8 HBR2.out
      go_wp2_with fail
      have hfin := stored8 HBR2.out (.int .i64 0) (.int .i64 0) (.int .i64 0) (.int .i64 0) (.string ⟨#[]⟩) (.int .u32 0) (.slice none 0 0) (.int .i64 0)
      have hgr : w2.grownBy _ (some b) := set8_grown (W := w2) (b := b) (.int .i64 0) (.int .i64 0) (.int .i64 0) (.int .i64 0) (.string ⟨#[]⟩) (.int .u32 0) (.slice none 0 0) (.int .i64 0)
      clear p0 p1 p2 p3 p4 p5 p6 p7 z0 z1 z2 z3 z4 z5 z6 z7
      generalize ((((((((w2.setCell ⟨b, 0, none⟩ (.int .i64 0)).setCell ⟨b, 1, none⟩ (.int .i64 0)).setCell ⟨b, 2, none⟩ (.int .i64 0)).setCell ⟨b, 3, none⟩ (.int .i64 0)).setCell ⟨b, 4, none⟩ (.string ⟨#[]⟩)).setCell ⟨b, 5, none⟩ (.int .u32 0)).setCell ⟨b, 6, none⟩ (.slice none 0 0)).setCell ⟨b, 7, none⟩ (.int .i64 0)) = W at hfin hgr ⊢
      obtain ⟨⟨r0, r1, r2, r3, r4, r5, r6, r7⟩, _⟩ := box8 hfin
      have hWB : Below w.heap.size w W := HB2.out.grown hgr (by have := HB2.out.size; omega) (fun k hk => by simp only [Option.some.injEq] at hk; have := HBB.out; omega)
      exact bodyPost_ret (v := .tuple #[.agg #[.int .i64 0, .int .i64 0, .int .i64 0, .int .i64 0, .string ⟨#[]⟩, .int .u32 0, .slice none 0 0, .int .i64 0], .int .i64 3]) (by simp [results, Try.results14, go_sem, r0, r1, r2, r3, r4, r5, r6, r7]) rfl (retDec_none hWB)
    | .ok l =>
      have hR := HDD.out.symm.trans (show decR (sb s) = (l, 0) by unfold decR; rw [hq]; rfl)
      simp only [Prod.mk.injEq] at hR
      obtain ⟨rfl, rfl⟩ := hR
      have hl0 : dl ≠ [] := fun h => HBS.out (dec_empty (sb_lt s) (by rw [hq, h]))
      have hn0 : ((n : Int) == 0) = false := by
        rw [beq_eq_false_iff_ne]
        have := HNN.out
        intro h
        exact hl0 (List.eq_nil_of_length_eq_zero (by omega))
      have hback := dec_back (sb_lt s) hq
      have CG := Lib.hid (guess_calls dl hback.2.2 _ w2 HI2.out)
      have HWF := Lib.hid (guess_wf hback.2.1 hback.2.2 (dec_short (sb_lt s) hq))
      have HRT : Hid (encE (guessE dl) = (sb s, 0) → ro = some (guessE dl)) := Lib.hid fun h => by rw [← HRO.out]; exact guess_right (sb_lt s) hq h
      have HWR : Hid (encE (guessE dl) ≠ (sb s, 0) → ro = none) := Lib.hid fun h => by rw [← HRO.out]; exact guess_wrong (sb_lt s) hq hl0 h
      obtain ⟨x, hx⟩ : ∃ x, guessE dl = x := ⟨_, rfl⟩
      rw [hx] at CG HWF HRT HWR
      clear hback hq hl0 hx HI2 HRO HDD HBS
      go_wp2_with fail
      refine CG.out.mono ?_
      rintro e w3 ⟨A1, n1, c1, rfl, hop, hB3⟩
      have hbr4 : (w3.alloc (.cells #[.int .i64 x.kind, .int .i64 x.r.p, .int .i64 x.r.q, .int .i64 x.r.a, .string x.r.key, .int .u32 (x.r.val : Nat), .slice A1 n1 c1, .int .i64 x.n] 29)).heap[b]? = some Z8 := (Below.heap_alloc w3 _ b (by have := hB3.size; omega)).trans ((hB3.block b hbw).trans HBR2.out)
      have hB4 : Below w.heap.size w (w3.alloc (.cells #[.int .i64 x.kind, .int .i64 x.r.p, .int .i64 x.r.q, .int .i64 x.r.a, .string x.r.key, .int .u32 (x.r.val : Nat), .slice A1 n1 c1, .int .i64 x.n] 29)) := (HB2.out.trans (hB3.mono HB2.out.size)).alloc (by have := hB3.size; have := HBB.out; omega) _
      have hE4 := EBox.new w3 x (.slice A1 n1 c1)
      have hop4 : OpsAt (fun k => b + 2 ≤ k ∧ k < (w3.alloc (.cells #[.int .i64 x.kind, .int .i64 x.r.p, .int .i64 x.r.q, .int .i64 x.r.a, .string x.r.key, .int .u32 (x.r.val : Nat), .slice A1 n1 c1, .int .i64 x.n] 29)).heap.size) (w3.alloc (.cells #[.int .i64 x.kind, .int .i64 x.r.p, .int .i64 x.r.q, .int .i64 x.r.a, .string x.r.key, .int .u32 (x.r.val : Nat), .slice A1 n1 c1, .int .i64 x.n] 29)) (.slice A1 n1 c1) x.ops := hop.keep (fun k hk => Below.heap_alloc w3 _ k hk.2) (fun k hk => ⟨by have := hk.1; omega, by have := hk.2; simp; omega⟩)
      have hs4 : b + 3 ≤ (w3.alloc (.cells #[.int .i64 x.kind, .int .i64 x.r.p, .int .i64 x.r.q, .int .i64 x.r.a, .string x.r.key, .int .u32 (x.r.val : Nat), .slice A1 n1 c1, .int .i64 x.n] 29)).heap.size := by have := hB3.size; simp; omega
      have HBR4 := Lib.hid hbr4
      have HB4 := Lib.hid hB4
      have HE4 := Lib.hid hE4
      have HOP4 := Lib.hid hop4
      have HS4 := Lib.hid hs4
      clear hop hB3 hbr4 hB4 hE4 hop4 hs4 CG HBR2 HB2
      go_upto_region 7 with fail
      have hbr4 := HBR4.out
      have hB4 := HB4.out
      have hE4 := HE4.out
      have hop4 := HOP4.out
      have hs4 := HS4.out
      clear HBR4 HB4 HE4 HOP4 HS4
      generalize w3.alloc (.cells #[.int .i64 x.kind, .int .i64 x.r.p, .int .i64 x.r.q, .int .i64 x.r.a, .string x.r.key, .int .u32 (x.r.val : Nat), .slice A1 n1 c1, .int .i64 x.n] 29) = w4 at hbr4 hB4 hE4 hop4 hs4 ⊢
      obtain ⟨q, hq⟩ : ∃ q, w3.heap.size = q := ⟨_, rfl⟩
      rw [hq] at hE4 ⊢
      clear hq
      have cE := refEncodeE_calls x HWF.out (.slice A1 n1 c1) w4 (hop4.mono fun k hk => hk.2)
      have hlt := encE_lt2 HWF.out
      obtain ⟨⟨xs, er⟩, hRE⟩ : ∃ R, encE x = R := ⟨_, rfl⟩
      rw [hRE] at cE hlt HRT HWR
      have CE := Lib.hid cE
      have HLT := Lib.hid hlt
      obtain ⟨f0, f1, f2, f3, f4, f5, f6, f7⟩ := hE4.cells
      have HBR4 := Lib.hid hbr4
      have HB4 := Lib.hid hB4
      have HE4 := Lib.hid hE4
      have HOP4 := Lib.hid hop4
      clear hbr4 hB4 hE4 hop4 cE hRE hlt
      go_wp2_with fail
      refine CE.out.mono ?_
      rintro e w5 ⟨rfl, hB5⟩
      have hbr5 := (hB5.block b (by omega)).trans HBR4.out
      have hBw5 : Below w.heap.size w w5 := HB4.out.trans (hB5.mono HB4.out.size)
      have hE5 := HE4.out.low hB5
      have hop5 : OpsAt (fun k => b + 2 ≤ k ∧ k < w5.heap.size) w5 (.slice A1 n1 c1) x.ops := HOP4.out.keep (fun k hk => hB5.block k hk.2) (fun k hk => ⟨hk.1, Nat.lt_of_lt_of_le hk.2 hB5.size⟩)
      have hb5 : b < w5.heap.size := by have := hB5.size; omega
      have HBR5 := Lib.hid hbr5
      have HB5 := Lib.hid hBw5
      have HE5 := Lib.hid hE5
      have HOP5 := Lib.hid hop5
      clear hB5 hbr5 hBw5 hE5 hop5 CE HE4 HOP4 HBR4 HB4 f0 f1 f2 f3 f4 f5 f6 f7
      simp only
      by_cases her : er = 0
      · subst her
        by_cases hst : str xs = s
        · obtain rfl : ro = some x := HRT.out (by rw [← hst, sb_str HLT.out.1])
          have hcmp : ((str xs).toList == s.toList) = true := by rw [hst]; simp
          obtain ⟨⟨p0, p1, p2, p3, p4, p5, p6, p7⟩, z0, z1, z2, z3, z4, z5, z6, z7⟩ := box8 HBR5.out
          obtain ⟨f0, f1, f2, f3, f4, f5, f6, f7⟩ := HE5.out.cells
          clear hst HRT HWR
          go_wp2_with fail
          have hfin := stored8 HBR5.out (.int .i64 x.kind) (.int .i64 x.r.p) (.int .i64 x.r.q) (.int .i64 x.r.a) (.string x.r.key) (.int .u32 (x.r.val : Nat)) (.slice A1 n1 c1) (.int .i64 x.n)
          have hgr : w5.grownBy _ (some b) := set8_grown (W := w5) (b := b) (.int .i64 x.kind) (.int .i64 x.r.p) (.int .i64 x.r.q) (.int .i64 x.r.a) (.string x.r.key) (.int .u32 (x.r.val : Nat)) (.slice A1 n1 c1) (.int .i64 x.n)
          clear p0 p1 p2 p3 p4 p5 p6 p7 z0 z1 z2 z3 z4 z5 z6 z7 f0 f1 f2 f3 f4 f5 f6 f7
          generalize ((((((((w5.setCell ⟨b, 0, none⟩ (.int .i64 x.kind)).setCell ⟨b, 1, none⟩ (.int .i64 x.r.p)).setCell ⟨b, 2, none⟩ (.int .i64 x.r.q)).setCell ⟨b, 3, none⟩ (.int .i64 x.r.a)).setCell ⟨b, 4, none⟩ (.string x.r.key)).setCell ⟨b, 5, none⟩ (.int .u32 (x.r.val : Nat))).setCell ⟨b, 6, none⟩ (.slice A1 n1 c1)).setCell ⟨b, 7, none⟩ (.int .i64 x.n)) = W at hfin hgr ⊢
          obtain ⟨⟨r0, r1, r2, r3, r4, r5, r6, r7⟩, _⟩ := box8 hfin
          have hWB : Below w.heap.size w W := HB5.out.grown hgr (by have := HB5.out.size; omega) (fun k hk => by simp only [Option.some.injEq] at hk; have := HBB.out; omega)
          exact bodyPost_ret (v := .tuple #[entV x (.slice A1 n1 c1), .int .i64 0]) (by simp [results, Try.results14, go_sem, r0, r1, r2, r3, r4, r5, r6, r7]) rfl
            ⟨x, A1, n1, c1, rfl, (fun y h => Option.some.inj h), (fun h => by cases h), HOP5.out.keep (fun k hk => hgr.block k hk.2 (by simp only [ne_eq, Option.some.injEq]; have := hk.1; omega)) (fun k hk => ⟨by have := hk.1; have := HBB.out; omega, Nat.lt_of_lt_of_le hk.2 hgr.size⟩), hWB⟩
        · obtain rfl : ro = none := HWR.out (fun h => hst (by simp only [Prod.mk.injEq] at h; rw [h.1, str_sb]))
          have hcmp : ((str xs).toList == s.toList) = false := (Lib.bytes_beq_false_iff _ _).2 hst
          clear hst HRT HWR HOP5 HE5
          obtain ⟨⟨p0, p1, p2, p3, p4, p5, p6, p7⟩, z0, z1, z2, z3, z4, z5, z6, z7⟩ := box8 HBR5.out
          go_wp2_with fail
          have hfin := stored8 HBR5.out (.int .i64 0) (.int .i64 0) (.int .i64 0) (.int .i64 0) (.string ⟨#[]⟩) (.int .u32 0) (.slice none 0 0) (.int .i64 0)
          have hgr : w5.grownBy _ (some b) := set8_grown (W := w5) (b := b) (.int .i64 0) (.int .i64 0) (.int .i64 0) (.int .i64 0) (.string ⟨#[]⟩) (.int .u32 0) (.slice none 0 0) (.int .i64 0)
          clear p0 p1 p2 p3 p4 p5 p6 p7 z0 z1 z2 z3 z4 z5 z6 z7
          generalize ((((((((w5.setCell ⟨b, 0, none⟩ (.int .i64 0)).setCell ⟨b, 1, none⟩ (.int .i64 0)).setCell ⟨b, 2, none⟩ (.int .i64 0)).setCell ⟨b, 3, none⟩ (.int .i64 0)).setCell ⟨b, 4, none⟩ (.string ⟨#[]⟩)).setCell ⟨b, 5, none⟩ (.int .u32 0)).setCell ⟨b, 6, none⟩ (.slice none 0 0)).setCell ⟨b, 7, none⟩ (.int .i64 0)) = W at hfin hgr ⊢
          obtain ⟨⟨r0, r1, r2, r3, r4, r5, r6, r7⟩, _⟩ := box8 hfin
          have hWB : Below w.heap.size w W := HB5.out.grown hgr (by have := HB5.out.size; omega) (fun k hk => by simp only [Option.some.injEq] at hk; have := HBB.out; omega)
          exact bodyPost_ret (v := .tuple #[.agg #[.int .i64 0, .int .i64 0, .int .i64 0, .int .i64 0, .string ⟨#[]⟩, .int .u32 0, .slice none 0 0, .int .i64 0], .int .i64 3]) (by simp [results, Try.results14, go_sem, r0, r1, r2, r3, r4, r5, r6, r7]) rfl (retDec_none hWB)
      · obtain rfl : ro = none := HWR.out (fun h => her (by simp only [Prod.mk.injEq] at h; exact h.2))
        have hkI : ((er : Int) != 0) = true := by rw [bne_iff_ne]; omega
        have hkJ : ¬ (er : Int) = 0 := by omega
        clear her HRT HWR HOP5 HE5
        obtain ⟨⟨p0, p1, p2, p3, p4, p5, p6, p7⟩, z0, z1, z2, z3, z4, z5, z6, z7⟩ := box8 HBR5.out
        go_wp2_with fail
        have hfin := stored8 HBR5.out (.int .i64 0) (.int .i64 0) (.int .i64 0) (.int .i64 0) (.string ⟨#[]⟩) (.int .u32 0) (.slice none 0 0) (.int .i64 0)
        have hgr : w5.grownBy _ (some b) := set8_grown (W := w5) (b := b) (.int .i64 0) (.int .i64 0) (.int .i64 0) (.int .i64 0) (.string ⟨#[]⟩) (.int .u32 0) (.slice none 0 0) (.int .i64 0)
        clear p0 p1 p2 p3 p4 p5 p6 p7 z0 z1 z2 z3 z4 z5 z6 z7
        generalize ((((((((w5.setCell ⟨b, 0, none⟩ (.int .i64 0)).setCell ⟨b, 1, none⟩ (.int .i64 0)).setCell ⟨b, 2, none⟩ (.int .i64 0)).setCell ⟨b, 3, none⟩ (.int .i64 0)).setCell ⟨b, 4, none⟩ (.string ⟨#[]⟩)).setCell ⟨b, 5, none⟩ (.int .u32 0)).setCell ⟨b, 6, none⟩ (.slice none 0 0)).setCell ⟨b, 7, none⟩ (.int .i64 0)) = W at hfin hgr ⊢
        obtain ⟨⟨r0, r1, r2, r3, r4, r5, r6, r7⟩, _⟩ := box8 hfin
        have hWB : Below w.heap.size w W := HB5.out.grown hgr (by have := HB5.out.size; omega) (fun k hk => by simp only [Option.some.injEq] at hk; have := HBB.out; omega)
        exact bodyPost_ret (v := .tuple #[.agg #[.int .i64 0, .int .i64 0, .int .i64 0, .int .i64 0, .string ⟨#[]⟩, .int .u32 0, .slice none 0 0, .int .i64 0], .int .i64 3]) (by simp [results, Try.results14, go_sem, r0, r1, r2, r3, r4, r5, r6, r7]) rfl (retDec_none hWB)

end Go.Proofs.Ytffehnojcajhiaa.Wire.Entry
