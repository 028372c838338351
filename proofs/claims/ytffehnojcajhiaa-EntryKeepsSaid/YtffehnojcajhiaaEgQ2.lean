/-
  The walk of the law EntryBack.
-/
import Derived.Test.YtffehnojcajhiaaEgJ
import Derived.Test.YtffehnojcajhiaaEgK
namespace Go.Proofs.Ytffehnojcajhiaa.Wire.Entry
open Go Go.RowKit Go.Proofs.Ytffehnojcajhiaa.Law

mutual
theorem byteB_lt : ∀ x : Item, x.sized → ∀ z ∈ x.bytes, z < 256
  | .mk k n s l => fun h z hz => by
    rw [Item.bytes] at hz
    rcases List.mem_cons.1 hz with rfl | hz
    · omega
    · rcases List.mem_append.1 hz with hz | hz
      · exact num_lt (no_lt h) z hz
      · rcases List.mem_append.1 hz with hz | hz
        · exact sb_lt s z hz
        · exact byteBL_lt l (sized_kids h) z hz
theorem byteBL_lt : ∀ l : List Item, sizedL l → ∀ z ∈ bytesL l, z < 256
  | [], _, z, hz => by rw [bytesL] at hz; cases hz
  | x :: r, h, z, hz => by
    rw [sizedL] at h
    rw [bytesL] at hz
    rcases List.mem_append.1 hz with hz | hz
    · exact byteB_lt x h.1 z hz
    · exact byteBL_lt r h.2 z hz
end
theorem encE_lt2 {e : Ent} (hw : e.wf) : (∀ z ∈ (encE e).1, z < 256) ∧ (encE e).1.length ≤ 65536 := by
  unfold encE
  split
  · unfold encN
    split
    · exact ⟨fun _ h => (by cases h), by simp⟩
    · rename_i h1
      split
      · exact ⟨fun _ h => (by cases h), by simp⟩
      · rename_i h2
        have hd : (encN (msg e)).2 = 0 := by
          unfold encN
          rw [if_neg h1, if_neg h2]
        exact ⟨byteBL_lt _ (msg_sized hw), by dsimp only; omega⟩
  · exact ⟨fun _ h => (by cases h), by simp⟩

theorem zeroE_wf : zeroE.wf := ⟨⟨by decide, by decide⟩, ⟨⟨by decide, by decide⟩, ⟨by decide, by decide⟩, ⟨by decide, by decide⟩, by decide, by decide⟩, by simp [zeroE], by simp [zeroE], ⟨by decide, by decide⟩⟩
theorem decE_wf {bs : List Nat} {e : Ent} (hb : ∀ x ∈ bs, x < 256) (h : decE bs = some e) : e.wf := by
  obtain ⟨l, h1, h2, _⟩ := decE_some h
  exact dec_wf hb h1 h2

set_option maxRecDepth 100000 in
set_option maxHeartbeats 4000000 in
theorem entryBack_law (a : Ent) (ha : a.wf) (s : ByteArray) (hs : s.size ≤ 140737488351232) (u : Value) (w : World) (hI : OldO w.heap.size w u a.ops) :
    Calls Try.prog 5 #[entV a u, .string s] w (RetB w true) := by
  have hE0 := EBox.new w a u
  have hB0 := (Below.refl w.heap.size w).alloc (Nat.le_refl _) (.cells #[.int .i64 a.kind, .int .i64 a.r.p, .int .i64 a.r.q, .int .i64 a.r.a, .string a.r.key, .int .u32 (a.r.val : Nat), u, .int .i64 a.n] 29)
  have HI := Lib.hid hI
  obtain ⟨⟨xs, ea⟩, hRa⟩ : ∃ R, encE a = R := ⟨_, rfl⟩
  obtain ⟨r, hr⟩ : ∃ r, decE (sb s) = r := ⟨_, rfl⟩
  have hxl := encE_lt2 ha
  rw [hRa] at hxl
  have CA : Hid (∀ W, Below w.heap.size w W → Calls Try.prog 8 #[entV a u] W (RetText W (xs, ea))) := Lib.hid fun W hW => by
    have := encodeE_calls a ha u W (OpsAt.on hW hI)
    rwa [hRa] at this
  have DA : Hid (ea = 0 → ∀ W, Calls Try.prog 13 #[.string (str xs)] W (RetDec W (some a))) := Lib.hid fun h W => by
    have h1 := decE_enc ha (by rw [hRa]; exact h)
    rw [hRa] at h1
    have := decodeE_calls (str xs) (by have := sb_length (str xs); rw [sb_str hxl.1] at this; have := hxl.2; omega) W
    rwa [sb_str hxl.1, h1] at this
  have SA : Hid (∀ (v : Value) W, Below w.heap.size w W → OldO W.heap.size W v a.ops → Calls Try.prog 15 #[entV a u, entV a v] W (RetB W true)) := Lib.hid fun v W hW hv => same_calls a a ha u v true ⟨fun _ => rfl, fun _ => rfl⟩ W (OpsAt.on hW hI) hv
  have DS : Hid (∀ W, Calls Try.prog 13 #[.string s] W (RetDec W r)) := Lib.hid fun W => by
    have := decodeE_calls s hs W
    rwa [hr] at this
  have SZ : Hid (∀ (v : Value) W, OldO W.heap.size W v zeroE.ops → Calls Try.prog 15 #[entV zeroE v, entV zeroE (.slice none 0 0)] W (RetB W true)) := Lib.hid fun v W hv => same_calls zeroE zeroE zeroE_wf v (.slice none 0 0) true ⟨fun _ => rfl, fun _ => rfl⟩ W hv (OpsAt.nil _ _)
  have CS : Hid (∀ y, r = some y → ∀ (v : Value) W, OldO W.heap.size W v y.ops → Calls Try.prog 8 #[entV y v] W (RetText W (sb s, 0))) := Lib.hid fun y hy v W hv => by
    rw [hy] at hr
    have := encodeE_calls y (decE_wf (sb_lt s) hr) v W hv
    rwa [encE_dec (sb_lt s) hr] at this
  have HE := Lib.hid hE0
  have HB := Lib.hid hB0
  have HK := Lib.hid known_calls
  clear hI hRa hr hxl hE0 hB0 ha hs
  go_enter Try.func5, Try.ntmps5
  go_wp2_with fail
  generalize w.alloc (.cells #[.int .i64 a.kind, .int .i64 a.r.p, .int .i64 a.r.q, .int .i64 a.r.a, .string a.r.key, .int .u32 (a.r.val : Nat), u, .int .i64 a.n] 29) = w0 at HE HB ⊢
  refine (HK.out w0).mono ?_
  rintro e w1 ⟨rfl, B1⟩
  have HE1 := Lib.hid (HE.out.low B1)
  have HB1 := Lib.hid (HB.out.trans (B1.mono HB.out.size))
  obtain ⟨a0, a1, a2, a3, a4, a5, a6, a7⟩ := HE1.out.cells
  clear B1 HB HE HK
  go_wp2_with fail
  refine (CA.out _ HB1.out).mono ?_
  rintro e w2 ⟨rfl, B2⟩
  have HE2 := Lib.hid (HE1.out.low B2)
  have HB2 := Lib.hid (HB1.out.trans (B2.mono HB1.out.size))
  clear B2 HB1 HE1 CA a0 a1 a2 a3 a4 a5 a6 a7
  simp only
  by_cases hea : ea = 0
  · have DA' := Lib.hid (DA.out hea)
    subst hea
    clear DA
    go_wp2_with fail
    refine (DA'.out _).mono ?_
    rintro e w3 ⟨x, A, n, c, rfl, hx, _, hO, B3⟩
    obtain rfl : a = x := (hx a rfl).symm
    have hE3 := HE2.out.low B3
    have hB3 := HB2.out.trans (B3.mono HB2.out.size)
    have hY := EBox.new w3 a (.slice A n c)
    have hBy := (Below.refl w3.heap.size w3).alloc (Nat.le_refl _) (.cells #[.int .i64 a.kind, .int .i64 a.r.p, .int .i64 a.r.q, .int .i64 a.r.a, .string a.r.key, .int .u32 (a.r.val : Nat), .slice A n c, .int .i64 a.n] 29)
    have hE4 := hE3.low hBy
    have HB4 := Lib.hid (hB3.trans (hBy.mono hB3.size))
    have HV4 := Lib.hid (OpsAt.on hBy (hO.mono (fun k hk => hk.2)))
    obtain ⟨a0, a1, a2, a3, a4, a5, a6, a7⟩ := hE4.cells
    obtain ⟨d0, d1, d2, d3, d4, d5, d6, d7⟩ := hY.cells
    clear hE3 hB3 hY hBy hE4 hO B3 hx DA' HE2 HB2
    go_wp2_with fail
    refine (SA.out _ _ HB4.out HV4.out).mono ?_
    rintro e w5 ⟨rfl, B5⟩
    have HB5 := Lib.hid (HB4.out.trans (B5.mono HB4.out.size))
    clear B5 HB4 HV4 a0 a1 a2 a3 a4 a5 a6 a7 d0 d1 d2 d3 d4 d5 d6 d7 SA
    go_wp2_with fail
    refine (DS.out _).mono ?_
    rintro e w6 ⟨x, A2, n2, c2, rfl, hx, hz, hO, B6⟩
    have hB6 := HB5.out.trans (B6.mono HB5.out.size)
    have hO6 := hO.mono (fun k hk => hk.2)
    have hY := EBox.new w6 x (.slice A2 n2 c2)
    have hBy := (Below.refl w6.heap.size w6).alloc (Nat.le_refl _) (.cells #[.int .i64 x.kind, .int .i64 x.r.p, .int .i64 x.r.q, .int .i64 x.r.a, .string x.r.key, .int .u32 (x.r.val : Nat), .slice A2 n2 c2, .int .i64 x.n] 29)
    have HB7 := Lib.hid (hB6.trans (hBy.mono hB6.size))
    have HV7 := Lib.hid (OpsAt.on hBy hO6)
    obtain ⟨d0, d1, d2, d3, d4, d5, d6, d7⟩ := hY.cells
    clear hB6 hY hBy hO hO6 B6 DS HB5
    match r with
    | none =>
      obtain rfl := hz rfl
      go_wp2_with fail
      refine (SZ.out _ _ HV7.out).mono ?_
      rintro e w8 ⟨rfl, B8⟩
      have HB8 := Lib.hid (HB7.out.trans (B8.mono HB7.out.size))
      clear B8 HB7 HV7 d0 d1 d2 d3 d4 d5 d6 d7
      go_wp2_with fail
      go_ret
      exact ⟨rfl, HB8.out⟩
    | some y =>
      obtain rfl := hx y rfl
      go_wp2_with fail
      refine (CS.out _ rfl _ _ HV7.out).mono ?_
      rintro e w8 ⟨rfl, B8⟩
      rw [str_sb]
      have HB8 := Lib.hid (HB7.out.trans (B8.mono HB7.out.size))
      have hss : (s.toList == s.toList) = true := by simp
      clear B8 HB7 HV7 d0 d1 d2 d3 d4 d5 d6 d7
      go_wp2_with fail
      go_ret
      exact ⟨rfl, HB8.out⟩
  · have heaI : ¬ (ea : Int) = 0 := by omega
    have HB5 := Lib.hid HB2.out
    clear SA DA HE2 HB2
    go_wp2_with fail
    refine (DS.out _).mono ?_
    rintro e w6 ⟨x, A2, n2, c2, rfl, hx, hz, hO, B6⟩
    have hB6 := HB5.out.trans (B6.mono HB5.out.size)
    have hO6 := hO.mono (fun k hk => hk.2)
    have hY := EBox.new w6 x (.slice A2 n2 c2)
    have hBy := (Below.refl w6.heap.size w6).alloc (Nat.le_refl _) (.cells #[.int .i64 x.kind, .int .i64 x.r.p, .int .i64 x.r.q, .int .i64 x.r.a, .string x.r.key, .int .u32 (x.r.val : Nat), .slice A2 n2 c2, .int .i64 x.n] 29)
    have HB7 := Lib.hid (hB6.trans (hBy.mono hB6.size))
    have HV7 := Lib.hid (OpsAt.on hBy hO6)
    obtain ⟨d0, d1, d2, d3, d4, d5, d6, d7⟩ := hY.cells
    clear hB6 hY hBy hO hO6 B6 DS HB5
    match r with
    | none =>
      obtain rfl := hz rfl
      go_wp2_with fail
      refine (SZ.out _ _ HV7.out).mono ?_
      rintro e w8 ⟨rfl, B8⟩
      have HB8 := Lib.hid (HB7.out.trans (B8.mono HB7.out.size))
      clear B8 HB7 HV7 d0 d1 d2 d3 d4 d5 d6 d7
      go_wp2_with fail
      go_ret
      exact ⟨rfl, HB8.out⟩
    | some y =>
      obtain rfl := hx y rfl
      go_wp2_with fail
      refine (CS.out _ rfl _ _ HV7.out).mono ?_
      rintro e w8 ⟨rfl, B8⟩
      rw [str_sb]
      have HB8 := Lib.hid (HB7.out.trans (B8.mono HB7.out.size))
      have hss : (s.toList == s.toList) = true := by simp
      clear B8 HB7 HV7 d0 d1 d2 d3 d4 d5 d6 d7
      go_wp2_with fail
      go_ret
      exact ⟨rfl, HB8.out⟩
end Go.Proofs.Ytffehnojcajhiaa.Wire.Entry
