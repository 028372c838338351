/-
  The statement 'EntryKeepsSaid' is proved: for every input that the row admits the law returns true and each argument reads as it read before. Conditions: the form's own reach.
-/
import Derived.Test.YtffehnojcajhiaaEgJ
import Derived.Test.YtffehnojcajhiaaEgK
import Derived.Test.YtffehnojcajhiaaEgQ2
import Derived.Test.YtffehnojcajhiaaEgT
import Derived.Test.YtffehnojcajhiaaEgN
import Derived.Test.YtffehnojcajhiaaEgR
import Derived.Test.YtffehnojcajhiaaRows
import Derived.Test.YtffehnojcajhiaaEgB
import Derived.ProofKit
import Derived.SizedLaws
namespace Go.Proofs.Ytffehnojcajhiaa.Wire.Entry
open Go Go.RowKit Go.Proofs.Ytffehnojcajhiaa.Law

theorem set8_6 {W : World} {b : Nat} {a0 a1 a2 a3 a4 a5 a6 a7 : Value} {T : TypeId} (h : W.heap[b]? = some (.cells #[a0, a1, a2, a3, a4, a5, a6, a7] T)) (v : Value) :
    (W.setCell ⟨b, 6, none⟩ v).heap[b]? = some (.cells #[a0, a1, a2, a3, a4, a5, v, a7] T) := by
  simp [World.setCell, Array.getElem?_modify, h]
theorem EBox.set6 {W : World} {b : Nat} {e : Ent} {u : Value} (h : EBox W b e u) (v : Value) : EBox (W.setCell ⟨b, 6, none⟩ v) b e v := set8_6 h v

/-- What the wipe leaves as it was. -/
structure KeepSt (w10 W : World) (s1 s2 g c1 n : Nat) (hd : Nat → Option Addr × Nat × Nat) : Prop where
  wipe : WipeD (fun b => s1 ≤ b ∧ b < s2) W g c1 n hd
  kp : ∀ j, ¬ (s1 ≤ j ∧ j < s2) → W.heap[j]? = w10.heap[j]?
  size : W.heap.size = w10.heap.size
  low : Below s1 w10 W
theorem KeepSt.num {w10 W : World} {s1 s2 g c1 n : Nat} {hd : Nat → Option Addr × Nat × Nat} (h : KeepSt w10 W s1 s2 g c1 n hd) {q : Nat} (hq : s1 ≤ q ∧ q < s2) (hg : q ≠ g) (k : Nat) (v : Value) : KeepSt w10 (W.setCell ⟨q, k, none⟩ v) s1 s2 g c1 n hd :=
  ⟨h.wipe.setNum hg k v, fun j hj => (Below.heap_setCell _ _ _ _ (by show j ≠ q; intro e; subst e; exact hj hq)).trans (h.kp j hj), by simp [World.setCell, h.size], h.low.setCell (p := ⟨q, k, none⟩) hq.1 v⟩
theorem KeepSt.kind {w10 W : World} {s1 s2 g c1 n : Nat} {hd : Nat → Option Addr × Nat × Nat} (h : KeepSt w10 W s1 s2 g c1 n hd) (hg : s1 ≤ g ∧ g < s2) (k : Nat) (v : Value) : KeepSt w10 (W.setCell ⟨g, k * 7, none⟩ v) s1 s2 g c1 n hd :=
  ⟨h.wipe.setKind k v, fun j hj => (Below.heap_setCell _ _ _ _ (by show j ≠ g; intro e; subst e; exact hj hg)).trans (h.kp j hj), by simp [World.setCell, h.size], h.low.setCell (p := ⟨g, k * 7, none⟩) hg.1 v⟩
theorem row_slice {W : World} {n : Nat} {v : Value} {xs : List Value} (h : W.ownsRow 0 47 7 v n xs) : ∃ A c, v = .slice A n c := by
  rcases h.2 with ⟨rfl, h0⟩ | ⟨g, cap, cur, rfl, _⟩
  · exact ⟨none, 0, by rw [h0]⟩
  · exact ⟨_, _, rfl⟩

set_option maxRecDepth 100000 in
set_option maxHeartbeats 4000000 in
theorem entryKeeps_law (a : Ent) (ha : a.wf) (u : Value) (w : World) (hI : OldO w.heap.size w u a.ops) :
    Calls Try.prog 6 #[entV a u] w (RetB w true) := by
  obtain ⟨Au, cu, rfl, _⟩ := hI.form
  obtain ⟨n0, hn0⟩ : ∃ n0, a.ops.length = n0 := ⟨_, rfl⟩
  rw [hn0] at hI ⊢
  have HN0 := Lib.hid hn0
  clear hn0
  have hE0 := EBox.new w a (.slice Au n0 cu)
  have hB0 := (Below.refl w.heap.size w).alloc (Nat.le_refl _) (.cells #[.int .i64 a.kind, .int .i64 a.r.p, .int .i64 a.r.q, .int .i64 a.r.a, .string a.r.key, .int .u32 (a.r.val : Nat), .slice Au n0 cu, .int .i64 a.n] 29)
  obtain ⟨⟨xs, ea⟩, hRa⟩ : ∃ R, encE a = R := ⟨_, rfl⟩
  have hxl := encE_lt2 ha
  rw [hRa] at hxl
  have CA : Hid (∀ W, Below w.heap.size w W → Calls Try.prog 8 #[entV a (.slice Au n0 cu)] W (RetText W (xs, ea))) := Lib.hid fun W hW => by
    have := encodeE_calls a ha (.slice Au n0 cu) W (OpsAt.on hW hI)
    rwa [hRa] at this
  have DA : Hid (ea = 0 → ∀ W, Calls Try.prog 13 #[.string (str xs)] W (U.RetDec W (some a))) := Lib.hid fun h W => by
    have h1 := decE_enc ha (by rw [hRa]; exact h)
    rw [hRa] at h1
    have := U.decodeE_calls (str xs) (by have := sb_length (str xs); rw [sb_str hxl.1] at this; have := hxl.2; omega) W
    rwa [sb_str hxl.1, h1] at this
  have CP : Hid (∀ W, Below w.heap.size w W → Calls Try.prog 16 #[.agg #[.slice Au n0 cu]] W (RetCopy W a.ops)) := Lib.hid fun W hW => copyGraph_calls a.ops ha.2.2.2.1 (fun x hx => (ha.2.2.1 x hx).2.2.2.2.2.2.2) (.slice Au n0 cu) W (OpsAt.on hW hI)
  have SA : Hid (∀ (u' v : Value) W, OldO W.heap.size W u' a.ops → OldO W.heap.size W v a.ops → Calls Try.prog 15 #[entV a u', entV a v] W (RetB W true)) := Lib.hid fun u' v W hu hv => same_calls a a ha u' v true ⟨fun _ => rfl, fun _ => rfl⟩ W hu hv
  have HL16 : Hid (ea = 0 → a.ops.length ≤ 16) := Lib.hid fun h => by
    rcases encE_err (e := a) (by rw [hRa]; exact h) with ⟨_, _, h3, _⟩ | ⟨_, _, h3, _⟩ | ⟨_, _, h3, _⟩ | ⟨_, _, h3, _⟩
    · rw [h3]; simp
    · rw [h3]; simp
    · exact h3.1
    · rw [h3]; simp
  have HI := Lib.hid hI
  have HE := Lib.hid hE0
  have HB := Lib.hid hB0
  have HK := Lib.hid known_calls
  clear hI hRa hxl hE0 hB0 ha
  go_enter Try.func6, Try.ntmps6
  go_wp2_with fail
  generalize w.alloc (.cells #[.int .i64 a.kind, .int .i64 a.r.p, .int .i64 a.r.q, .int .i64 a.r.a, .string a.r.key, .int .u32 (a.r.val : Nat), .slice Au n0 cu, .int .i64 a.n] 29) = w0 at HE HB ⊢
  refine (HK.out w0).mono ?_
  rintro e w1 ⟨rfl, B1⟩
  have HE1 := Lib.hid (HE.out.low B1)
  have HB1 := Lib.hid (HB.out.trans (B1.mono HB.out.size))
  obtain ⟨a0, a1, a2, a3, a4, a5, a6, a7⟩ := HE1.out.cells
  clear B1 HB HE HK
  have hbl : w.heap.size < w1.heap.size := lt_of_some HE1.out
  have hE2 := HE1.out.low ((Below.refl _ _).alloc (Nat.le_refl _) (.cells #[.int .i64 a.kind, .int .i64 a.r.p, .int .i64 a.r.q, .int .i64 a.r.a, .string a.r.key, .int .u32 (a.r.val : Nat), .slice Au n0 cu, .int .i64 a.n] 29))
  have hF2 := EBox.new w1 a (.slice Au n0 cu)
  have hB2 := HB1.out.alloc HB1.out.size (.cells #[.int .i64 a.kind, .int .i64 a.r.p, .int .i64 a.r.q, .int .i64 a.r.a, .string a.r.key, .int .u32 (a.r.val : Nat), .slice Au n0 cu, .int .i64 a.n] 29)
  have hs2 : (w1.alloc (.cells #[.int .i64 a.kind, .int .i64 a.r.p, .int .i64 a.r.q, .int .i64 a.r.a, .string a.r.key, .int .u32 (a.r.val : Nat), .slice Au n0 cu, .int .i64 a.n] 29)).heap.size = w1.heap.size + 1 := by simp
  have HE2 := Lib.hid hE2
  have HF2 := Lib.hid hF2
  have HB2 := Lib.hid hB2
  have HS2 := Lib.hid hs2
  clear hE2 hF2 hB2 hs2
  go_upto_region 4 with fail
  clear a0 a1 a2 a3 a4 a5 a6 a7
  generalize w1.alloc (.cells #[.int .i64 a.kind, .int .i64 a.r.p, .int .i64 a.r.q, .int .i64 a.r.a, .string a.r.key, .int .u32 (a.r.val : Nat), .slice Au n0 cu, .int .i64 a.n] 29) = w2 at HE2 HF2 HB2 HS2 ⊢
  obtain ⟨p, hp⟩ : ∃ p, w1.heap.size = p := ⟨_, rfl⟩
  rw [hp] at HF2 HS2 hbl ⊢
  clear HE1 HB1 hp
  obtain ⟨a0, a1, a2, a3, a4, a5, a6, a7⟩ := HE2.out.cells
  go_wp2_with fail
  refine (CP.out _ HB2.out).mono ?_
  rintro e w3 ⟨A3, n3, c3, rfl, hO3, B3⟩
  have hE3 := HE2.out.low B3
  have hF3 := HF2.out.low B3
  have hF4 := hF3.set6 (.slice A3 n3 c3)
  have hE4 : EBox (w3.setCell ⟨p, 6, none⟩ (.slice A3 n3 c3)) w.heap.size a (.slice Au n0 cu) := (Below.heap_setCell _ _ _ _ (by show w.heap.size ≠ p; omega)).trans hE3
  have hB4 := (HB2.out.trans (B3.mono HB2.out.size)).setCell (p := ⟨p, 6, none⟩) (by show w.heap.size ≤ p; omega) (.slice A3 n3 c3)
  have hO4 : OldO (w3.setCell ⟨p, 6, none⟩ (.slice A3 n3 c3)).heap.size (w3.setCell ⟨p, 6, none⟩ (.slice A3 n3 c3)) (.slice A3 n3 c3) a.ops :=
    hO3.keep (fun k hk => Below.heap_setCell _ _ _ _ (by show k ≠ p; have := hk.1; have := HS2.out; omega)) (fun k hk => by have := hk.2; simpa [World.setCell] using this)
  have hpw : p < w3.heap.size := lt_of_some hF3
  obtain ⟨⟨f0, f1, f2, f3, f4, f5, f6, f7⟩, z0, z1, z2, z3, z4, z5, z6, z7⟩ := box8 hF3
  have HE4 := Lib.hid hE4
  have HF4 := Lib.hid hF4
  have HB4 := Lib.hid hB4
  have HO4 := Lib.hid hO4
  clear hE3 hF3 hF4 hE4 hB4 hO4 hO3 B3 HE2 HF2 HB2 HS2 CP a0 a1 a2 a3 a4 a5 a6 a7
  go_upto_region 5 with fail
  clear f0 f1 f2 f3 f4 f5 f6 f7 z0 z1 z2 z3 z4 z5 z6 z7 hpw
  generalize w3.setCell ⟨p, 6, none⟩ (.slice A3 n3 c3) = w4 at HE4 HF4 HB4 HO4 ⊢
  obtain ⟨a0, a1, a2, a3, a4, a5, a6, a7⟩ := HE4.out.cells
  go_wp2_with fail
  refine (CA.out _ HB4.out).mono ?_
  rintro e w5 ⟨rfl, B5⟩
  have HE5 := Lib.hid (HE4.out.low B5)
  have HF5 := Lib.hid (HF4.out.low B5)
  have HB5 := Lib.hid (HB4.out.trans (B5.mono HB4.out.size))
  have HO5 := Lib.hid (OpsAt.on B5 HO4.out)
  have CS5 := Lib.hid (SA.out (.slice Au n0 cu) (.slice A3 n3 c3) w5 (OpsAt.on (HB4.out.trans (B5.mono HB4.out.size)) HI.out) (OpsAt.on B5 HO4.out))
  clear B5 HE4 HF4 HB4 HO4 CA a0 a1 a2 a3 a4 a5 a6 a7
  obtain ⟨a0, a1, a2, a3, a4, a5, a6, a7⟩ := HE5.out.cells
  obtain ⟨f0, f1, f2, f3, f4, f5, f6, f7⟩ := HF5.out.cells
  go_wp2_with fail
  refine CS5.out.mono ?_
  rintro e w6 ⟨rfl, B6⟩
  have HE6 := Lib.hid (HE5.out.low B6)
  have HF6 := Lib.hid (HF5.out.low B6)
  have HB6 := Lib.hid (HB5.out.trans (B6.mono HB5.out.size))
  have HO6 := Lib.hid (OpsAt.on B6 HO5.out)
  clear B6 HE5 HF5 HB5 HO5 CS5 a0 a1 a2 a3 a4 a5 a6 a7 f0 f1 f2 f3 f4 f5 f6 f7
  by_cases hea : ea = 0
  · have DA' := Lib.hid (DA.out hea)
    have HL16' := Lib.hid (HL16.out hea)
    subst hea
    clear DA HL16
    have HL16 := HL16'
    clear HL16'
    go_wp2_with fail
    refine (DA'.out _).mono ?_
    rintro e w7 ⟨x, A7, n7, c7, rfl, hx, _, hO7, B7⟩
    obtain rfl : a = x := (hx a rfl).symm
    have hF7 := HF6.out.low B7
    have hO67 := (OpsAt.low B7 HO6.out)
    have hB7 := HB6.out.trans (B7.mono HB6.out.size)
    have hX8 := EBox.new w7 a (.slice A7 n7 c7)
    have hB8 := (Below.refl w7.heap.size w7).alloc (Nat.le_refl _) (.cells #[.int .i64 a.kind, .int .i64 a.r.p, .int .i64 a.r.q, .int .i64 a.r.a, .string a.r.key, .int .u32 (a.r.val : Nat), .slice A7 n7 c7, .int .i64 a.n] 29)
    have hs8 : (w7.alloc (.cells #[.int .i64 a.kind, .int .i64 a.r.p, .int .i64 a.r.q, .int .i64 a.r.a, .string a.r.key, .int .u32 (a.r.val : Nat), .slice A7 n7 c7, .int .i64 a.n] 29)).heap.size = w7.heap.size + 1 := by simp
    have HB8 := Lib.hid hB8
    have HX8 := Lib.hid hX8
    have HS8 := Lib.hid hs8
    have HF7 := Lib.hid hF7
    have HO67 := Lib.hid hO67
    have HB7 := Lib.hid hB7
    have HO7 := Lib.hid hO7
    have hs67 : w6.heap.size ≤ w7.heap.size := B7.size
    have hpw6 : p < w6.heap.size := lt_of_some HF6.out
    have hw6 : w.heap.size ≤ w6.heap.size := HB6.out.size
    clear hx hF7 hO67 hB7 hX8 hB8 hs8 B7 HE6 HF6 HB6 HO6 hO7
    go_upto_region 9 with fail
    generalize w7.alloc (.cells #[.int .i64 a.kind, .int .i64 a.r.p, .int .i64 a.r.q, .int .i64 a.r.a, .string a.r.key, .int .u32 (a.r.val : Nat), .slice A7 n7 c7, .int .i64 a.n] 29) = w8 at HB8 HX8 HS8 ⊢
    go_wp2_with fail
    refine (DA'.out _).mono ?_
    rintro e w9 ⟨x, A9, n9, c9, rfl, hx, _, hO9, B9⟩
    obtain rfl : a = x := (hx a rfl).symm
    have hs9 : w7.heap.size + 1 ≤ w9.heap.size := by have := B9.size; have := HS8.out; omega
    have hB10 := (Below.refl w9.heap.size w9).alloc (Nat.le_refl _) (.cells #[.int .i64 a.kind, .int .i64 a.r.p, .int .i64 a.r.q, .int .i64 a.r.a, .string a.r.key, .int .u32 (a.r.val : Nat), .slice A9 n9 c9, .int .i64 a.n] 29)
    have hs10 : (w9.alloc (.cells #[.int .i64 a.kind, .int .i64 a.r.p, .int .i64 a.r.q, .int .i64 a.r.a, .string a.r.key, .int .u32 (a.r.val : Nat), .slice A9 n9 c9, .int .i64 a.n] 29)).heap.size = w9.heap.size + 1 := by simp
    have h79 : ∀ j, j < w7.heap.size → (w9.alloc (.cells #[.int .i64 a.kind, .int .i64 a.r.p, .int .i64 a.r.q, .int .i64 a.r.a, .string a.r.key, .int .u32 (a.r.val : Nat), .slice A9 n9 c9, .int .i64 a.n] 29)).heap[j]? = w7.heap[j]? := fun j hj => (hB10.block j (by omega)).trans ((B9.block j (by have := HS8.out; omega)).trans (HB8.out.block j hj))
    have hPA : EBox (w9.alloc (.cells #[.int .i64 a.kind, .int .i64 a.r.p, .int .i64 a.r.q, .int .i64 a.r.a, .string a.r.key, .int .u32 (a.r.val : Nat), .slice A9 n9 c9, .int .i64 a.n] 29)) w7.heap.size a (.slice A7 n7 c7) := (HX8.out.low B9).low hB10
    have hPB := EBox.new w9 a (.slice A9 n9 c9)
    have hFP : EBox (w9.alloc (.cells #[.int .i64 a.kind, .int .i64 a.r.p, .int .i64 a.r.q, .int .i64 a.r.a, .string a.r.key, .int .u32 (a.r.val : Nat), .slice A9 n9 c9, .int .i64 a.n] 29)) p a (.slice A3 n3 c3) := (h79 p (by omega)).trans HF7.out
    have hOP10 : OpsAt (fun b => b < w6.heap.size) (w9.alloc (.cells #[.int .i64 a.kind, .int .i64 a.r.p, .int .i64 a.r.q, .int .i64 a.r.a, .string a.r.key, .int .u32 (a.r.val : Nat), .slice A9 n9 c9, .int .i64 a.n] 29)) (.slice A3 n3 c3) a.ops := HO67.out.keep (fun k hk => h79 k (by omega)) (fun k hk => hk)
    have hOB10 : OpsAt (fun b => w8.heap.size ≤ b ∧ b < w9.heap.size) (w9.alloc (.cells #[.int .i64 a.kind, .int .i64 a.r.p, .int .i64 a.r.q, .int .i64 a.r.a, .string a.r.key, .int .u32 (a.r.val : Nat), .slice A9 n9 c9, .int .i64 a.n] 29)) (.slice A9 n9 c9) a.ops := hO9.toAt.keep (fun k hk => hB10.block k hk.2) (fun k hk => hk)
    have hW10 : OpsW (fun b => w6.heap.size ≤ b ∧ b < w7.heap.size) (w9.alloc (.cells #[.int .i64 a.kind, .int .i64 a.r.p, .int .i64 a.r.q, .int .i64 a.r.a, .string a.r.key, .int .u32 (a.r.val : Nat), .slice A9 n9 c9, .int .i64 a.n] 29)) (.slice A7 n7 c7) a.ops := HO7.out.keep (fun k hk => h79 k hk.2) (fun k hk => hk)
    have hLOW : Below w.heap.size w (w9.alloc (.cells #[.int .i64 a.kind, .int .i64 a.r.p, .int .i64 a.r.q, .int .i64 a.r.a, .string a.r.key, .int .u32 (a.r.val : Nat), .slice A9 n9 c9, .int .i64 a.n] 29)) := ((HB7.out.trans (HB8.out.mono (by omega))).trans (B9.mono (by have := HS8.out; omega))).trans (hB10.mono (by omega))
    have HPA := Lib.hid hPA
    have HPB := Lib.hid hPB
    have HFP := Lib.hid hFP
    have HOP := Lib.hid hOP10
    have HOB := Lib.hid hOB10
    have HW10 := Lib.hid hW10
    have HLOW := Lib.hid hLOW
    have HS10 := Lib.hid hs10
    have h8a : w7.heap.size + 1 ≤ w8.heap.size := Nat.le_of_eq HS8.out.symm
    have h8b : w8.heap.size ≤ w7.heap.size + 1 := Nat.le_of_eq HS8.out
    clear hx hO9 B9 hB10 hs10 h79 hPA hPB hFP hOP10 hOB10 hW10 hLOW DA' HX8 HB8 HF7 HO67 HB7 HO7
    go_upto_region 10 with fail
    generalize w9.alloc (.cells #[.int .i64 a.kind, .int .i64 a.r.p, .int .i64 a.r.q, .int .i64 a.r.a, .string a.r.key, .int .u32 (a.r.val : Nat), .slice A9 n9 c9, .int .i64 a.n] 29) = w10 at HPA HPB HFP HOP HOB HW10 HLOW HS10 ⊢
    have h10a : w9.heap.size + 1 ≤ w10.heap.size := Nat.le_of_eq HS10.out.symm
    have h10b : w10.heap.size ≤ w9.heap.size + 1 := Nat.le_of_eq HS10.out
    clear HS8 HS10
    rcases HW10.out.wipe with ⟨hv7, hnil⟩ | ⟨g, c1, hd, hv7, hgS, hnc, hcm, hwipe⟩
    · simp only [Value.slice.injEq] at hv7
      obtain ⟨rfl, rfl, rfl⟩ := hv7
      obtain ⟨d0, d1, d2, d3, d4, d5, d6, d7⟩ := HPA.out.cells
      go_wp2_with fail
      go_loopw [10] (fun s W => s = .int .i64 0 ∧ w10 = W) (fun _ _ => 0)
      case atStart => exact ⟨rfl, rfl⟩
      case round =>
        obtain ⟨rfl, hwr⟩ := hrel
        subst hwr
        clear d0 d1 d2 d3 d4 d5 d6 d7
        have hrow : w10.ownsRow 0 47 7 (.slice none 0 0) 0 [] := World.ownsRow_nil w10 0 47 7
        have hkp : ∀ j, ¬ (w6.heap.size ≤ j ∧ j < w7.heap.size) → w10.heap[j]? = w10.heap[j]? := fun _ _ => rfl
        have hown : ∀ j, (Value.slice none 0 0).ownBlock = some j → w6.heap.size ≤ j ∧ j < w7.heap.size := fun j h => by cases h
        have hlow : Below w6.heap.size w10 w10 := Below.refl _ _
        obtain ⟨i0, hi, hz0, hz1, hz2⟩ := info_parts info_op
        have hl16 := HL16.out
        obtain ⟨v', W', hrun, hrow', hgr, _⟩ := run_append_own_at (P := Try.prog) (w10.alloc (.cells #[.int .i64 (-8), .slice none 0 0, .int .i64 0, .int .u32 0, .int .i64 0, .int .i64 0, .int .u32 0] 47)) 0 25 25 47 i0 _ 7 72 Try.underlying25 hi hz0 hz1 hz2 rfl (by decide) (.slice none 0 0) 0 [] (hrow.alloc _) ⟨w10.heap.size, 0, none⟩ 1 1 [.int .i64 (-8), .slice none 0 0, .int .i64 0, .int .u32 0, .int .i64 0, .int .i64 0, .int .u32 0] rfl
          (fun j x hx => by rw [Addr.add_lit, Nat.zero_add]; exact cell_lit w10 _ _ _ _ hx) (fun x hx => by simp only [List.mem_cons, List.not_mem_nil, or_false] at hx; rcases hx with rfl | rfl | rfl | rfl | rfl | rfl | rfl <;> rfl) (by simp only [maxLen]; omega) (by omega) (Nat.zero_le _)
        obtain ⟨A8, c8, hv8⟩ := row_slice hrow'
        subst hv8
        have hkW : ∀ j, j < w10.heap.size → ¬ (w6.heap.size ≤ j ∧ j < w7.heap.size) → W'.heap[j]? = w10.heap[j]? := fun j hj hn => (hgr.block j (by rw [World.size_alloc]; omega) (fun e => hn (hown j e.symm))).trans ((Below.heap_alloc w10 _ j (hj)).trans (hkp j hn))
        have hkF : ∀ j, j < w10.heap.size → ¬ (w6.heap.size ≤ j ∧ j < w7.heap.size) → j ≠ w7.heap.size → (W'.setCell ⟨w7.heap.size, 6, none⟩ (.slice A8 (0 + 1) c8)).heap[j]? = w10.heap[j]? := fun j hj hn hne => (Below.heap_setCell _ _ _ _ (by show j ≠ w7.heap.size; exact hne)).trans (hkW j hj hn)
        have hsW : w10.heap.size ≤ W'.heap.size := by have := hgr.size; rw [World.size_alloc] at this; omega
        have hpaW : EBox w10 w7.heap.size a (.slice none 0 0) := (hkp _ (fun h => Nat.lt_irrefl _ h.2)).trans HPA.out
        have hpaW' : EBox W' w7.heap.size a (.slice none 0 0) := (hkW _ (by omega) (fun h => Nat.lt_irrefl _ h.2)).trans HPA.out
        have hpF : EBox (W'.setCell ⟨w7.heap.size, 6, none⟩ (.slice A8 (0 + 1) c8)) p a (.slice A3 n3 c3) := (hkF p (by omega) (by omega) (by omega)).trans HFP.out
        have hpbF : EBox (W'.setCell ⟨w7.heap.size, 6, none⟩ (.slice A8 (0 + 1) c8)) w9.heap.size a (.slice A9 n9 c9) := (hkF _ (by omega) (by omega) (by omega)).trans HPB.out
        have hOP : OldO (W'.setCell ⟨w7.heap.size, 6, none⟩ (.slice A8 (0 + 1) c8)).heap.size (W'.setCell ⟨w7.heap.size, 6, none⟩ (.slice A8 (0 + 1) c8)) (.slice A3 n3 c3) a.ops := HOP.out.keep (fun k hk => hkF k (by omega) (by omega) (by omega)) (fun k hk => by simp [World.setCell]; omega)
        have hOB : OldO (W'.setCell ⟨w7.heap.size, 6, none⟩ (.slice A8 (0 + 1) c8)).heap.size (W'.setCell ⟨w7.heap.size, 6, none⟩ (.slice A8 (0 + 1) c8)) (.slice A9 n9 c9) a.ops := HOB.out.keep (fun k hk => hkF k (by omega) (by omega) (by omega)) (fun k hk => by simp [World.setCell]; omega)
        have hBF : Below w.heap.size w (W'.setCell ⟨w7.heap.size, 6, none⟩ (.slice A8 (0 + 1) c8)) := (((HLOW.out.trans (hlow.mono (by omega))).alloc (by omega) (.cells #[.int .i64 (-8), .slice none 0 0, .int .i64 0, .int .u32 0, .int .i64 0, .int .i64 0, .int .u32 0] 47)).grown hgr (by rw [World.size_alloc]; omega) (fun k hk => by have := hown k hk; omega)).setCell (p := ⟨w7.heap.size, 6, none⟩) (by show w.heap.size ≤ w7.heap.size; omega) _
        have CSF := Lib.hid (SA.out (.slice A9 n9 c9) (.slice A3 n3 c3) _ hOB hOP)
        obtain ⟨d0, d1, d2, d3, d4, d5, d6, d7⟩ := hpaW.cells
        obtain ⟨⟨g0, g1, g2, g3, g4, g5, g6, g7⟩, h0, h1, h2, h3, h4, h5, h6, h7⟩ := box8 hpaW'
        have hpaL : w7.heap.size < W'.heap.size := by omega
        have HR := Lib.hid hrun
        have HBF := Lib.hid hBF
        have HPF := Lib.hid hpF
        have HPBF := Lib.hid hpbF
        clear hrun hrow' hrow hgr hkW hkF hsW hpaW hpaW' hpF hpbF hOP hOB hBF hkp hown hlow i0 hi hz0 hz1 hz2 hl16
        go_upto_region 19 with (at_builtin; refine wpList_append_ran rfl _ _ _ rfl rfl rfl HR.out ?_)
        clear d0 d1 d2 d3 d4 d5 d6 d7 g0 g1 g2 g3 g4 g5 g6 g7 h0 h1 h2 h3 h4 h5 h6 h7 hpaL HR
        generalize W'.setCell ⟨w7.heap.size, 6, none⟩ (.slice A8 (0 + 1) c8) = WF at HBF HPF HPBF CSF ⊢
        obtain ⟨a0, a1, a2, a3, a4, a5, a6, a7⟩ := HPBF.out.cells
        obtain ⟨f0, f1, f2, f3, f4, f5, f6, f7⟩ := HPF.out.cells
        go_wp2_with fail
        refine CSF.out.mono ?_
        rintro e wz ⟨rfl, BZ⟩
        have HBZ := Lib.hid (HBF.out.trans (BZ.mono HBF.out.size))
        clear BZ CSF a0 a1 a2 a3 a4 a5 a6 a7 f0 f1 f2 f3 f4 f5 f6 f7
        go_wp2_with fail
        go_ret
        exact ⟨rfl, HBZ.out⟩
    · simp only [Value.slice.injEq] at hv7
      obtain ⟨rfl, rfl, rfl⟩ := hv7
      have hst : KeepSt w10 w10 w6.heap.size w7.heap.size g c7 a.ops.length hd := ⟨hwipe, fun _ _ => rfl, rfl, Below.refl _ _⟩
      obtain ⟨n7, hn7⟩ : ∃ n7, a.ops.length = n7 := ⟨_, rfl⟩
      have hl16 := HL16.out
      rw [hn7] at hst HPA hnc hl16 ⊢
      have HST := Lib.hid hst
      clear hst hwipe HW10 hn7
      obtain ⟨d0, d1, d2, d3, d4, d5, d6, d7⟩ := HPA.out.cells
      go_wp2_with fail
      go_loopw [10] (fun s W => ∃ k : Nat, s = .int .i64 k ∧ k ≤ n7 ∧ KeepSt w10 W w6.heap.size w7.heap.size g c7 n7 hd) (fun s _ => n7 - (intOf s).toNat)
      case atStart => exact ⟨0, rfl, Nat.zero_le _, HST.out⟩
      case round =>
        obtain ⟨k, rfl, hk, hst⟩ := hrel
        have hpaW : EBox wr w7.heap.size a (.slice (some ⟨g, 0, none⟩) n7 c7) := (hst.kp _ (fun h => Nat.lt_irrefl _ h.2)).trans HPA.out
        have d6 := hpaW.cells.2.2.2.2.2.2.1
        by_cases hlt : k < n7
        · obtain ⟨Ak, lk, ck, hk'⟩ : ∃ A l c, hd k = (A, l, c) := ⟨_, _, _, rfl⟩
          have hh := hst.wipe.header hlt
          rw [hk'] at hh
          simp only at hh
          have hlks : lk ≤ 9223372036854775807 := by have := hst.wipe.small hlt; rw [hk'] at this; simp only [maxLen] at this; omega
          have HD := Lib.hid hk'
          have HLT := Lib.hid hlt
          have HST1 := Lib.hid hst
          clear hst hk' hpaW
          go_wp2_with fail
          clear d6 hh
          go_loopw [11] (fun s W => ∃ m : Nat, s = .int .i64 m ∧ m ≤ lk ∧ KeepSt w10 W w6.heap.size w7.heap.size g c7 n7 hd) (fun s _ => lk - (intOf s).toNat)
          case atStart => exact ⟨0, rfl, Nat.zero_le _, HST1.out⟩
          case round =>
            obtain ⟨m, rfl, hm, hst⟩ := hrel
            have hpaW : EBox wr w7.heap.size a (.slice (some ⟨g, 0, none⟩) n7 c7) := (hst.kp _ (fun h => Nat.lt_irrefl _ h.2)).trans HPA.out
            have d6 := hpaW.cells.2.2.2.2.2.2.1
            have hh := hst.wipe.header HLT.out
            rw [HD.out] at hh
            simp only at hh
            by_cases hlt3 : m < lk
            · obtain ⟨gj, hA, hS, hne, ⟨uu, hcu⟩, hfz⟩ := hst.wipe.num HLT.out (k := m) (by rw [HD.out]; exact hlt3)
              rw [HD.out] at hA
              simp only at hA
              subst hA
              have HNW := Lib.hid (hst.num hS hne m (.int .i64 (-9)))
              have hgjl : gj < wr.heap.size := by have := hst.size; omega
              clear hst hpaW
              go_wp2_with fail
              go_roundw
              case rel => exact ⟨m + 1, by go_num, by omega, HNW.out⟩
              case measure => simp [intOf]; omega
            · obtain rfl : m = lk := by omega
              obtain ⟨⟨uu, hcu⟩, hfz⟩ := hst.wipe.kind hnc HLT.out
              have HNW := Lib.hid (hst.kind hgS k (.int .i64 (-9)))
              have hgl : g < wr.heap.size := by have := hst.size; omega
              clear hst hpaW
              go_wp2_with fail
              go_roundw
              case rel => exact ⟨k + 1, by go_num, by have := HLT.out; omega, HNW.out⟩
              case measure => have := HLT.out; simp [intOf]; omega
        · obtain rfl : k = n7 := by omega
          obtain ⟨xsr, hrow⟩ := hst.wipe.row hnc hcm
          have hsz := hst.size
          have hkp := hst.kp
          have hlow := hst.low
          have hown : ∀ j, (Value.slice (some ⟨g, 0, none⟩) k c7).ownBlock = some j → w6.heap.size ≤ j ∧ j < w7.heap.size := fun j h => by simp only [Value.ownBlock, Option.some.injEq] at h; omega
          clear hst d6 hpaW
          obtain ⟨i0, hi, hz0, hz1, hz2⟩ := info_parts info_op
          obtain ⟨v', W', hrun, hrow', hgr, _⟩ := run_append_own_at (P := Try.prog) (wr.alloc (.cells #[.int .i64 (-8), .slice none 0 0, .int .i64 0, .int .u32 0, .int .i64 0, .int .i64 0, .int .u32 0] 47)) 0 25 25 47 i0 _ 7 72 Try.underlying25 hi hz0 hz1 hz2 rfl (by decide) (.slice (some ⟨g, 0, none⟩) k c7) k xsr (hrow.alloc _) ⟨wr.heap.size, 0, none⟩ 1 1 [.int .i64 (-8), .slice none 0 0, .int .i64 0, .int .u32 0, .int .i64 0, .int .i64 0, .int .u32 0] rfl
            (fun j x hx => by rw [Addr.add_lit, Nat.zero_add]; exact cell_lit wr _ _ _ _ hx) (fun x hx => by simp only [List.mem_cons, List.not_mem_nil, or_false] at hx; rcases hx with rfl | rfl | rfl | rfl | rfl | rfl | rfl <;> rfl) (by simp only [maxLen]; omega) (by omega) (Nat.zero_le _)
          obtain ⟨A8, c8, hv8⟩ := row_slice hrow'
          subst hv8
          have hkW : ∀ j, j < w10.heap.size → ¬ (w6.heap.size ≤ j ∧ j < w7.heap.size) → W'.heap[j]? = w10.heap[j]? := fun j hj hn => (hgr.block j (by rw [World.size_alloc, hsz]; omega) (fun e => hn (hown j e.symm))).trans ((Below.heap_alloc wr _ j (by rw [hsz]; exact hj)).trans (hkp j hn))
          have hkF : ∀ j, j < w10.heap.size → ¬ (w6.heap.size ≤ j ∧ j < w7.heap.size) → j ≠ w7.heap.size → (W'.setCell ⟨w7.heap.size, 6, none⟩ (.slice A8 (k + 1) c8)).heap[j]? = w10.heap[j]? := fun j hj hn hne => (Below.heap_setCell _ _ _ _ (by show j ≠ w7.heap.size; exact hne)).trans (hkW j hj hn)
          have hsW : w10.heap.size ≤ W'.heap.size := by have := hgr.size; rw [World.size_alloc, hsz] at this; omega
          have hpaW : EBox wr w7.heap.size a (.slice (some ⟨g, 0, none⟩) k c7) := (hkp _ (fun h => Nat.lt_irrefl _ h.2)).trans HPA.out
          have hpaW' : EBox W' w7.heap.size a (.slice (some ⟨g, 0, none⟩) k c7) := (hkW _ (by omega) (fun h => Nat.lt_irrefl _ h.2)).trans HPA.out
          have hpF : EBox (W'.setCell ⟨w7.heap.size, 6, none⟩ (.slice A8 (k + 1) c8)) p a (.slice A3 n3 c3) := (hkF p (by omega) (by omega) (by omega)).trans HFP.out
          have hpbF : EBox (W'.setCell ⟨w7.heap.size, 6, none⟩ (.slice A8 (k + 1) c8)) w9.heap.size a (.slice A9 n9 c9) := (hkF _ (by omega) (by omega) (by omega)).trans HPB.out
          have hOP : OldO (W'.setCell ⟨w7.heap.size, 6, none⟩ (.slice A8 (k + 1) c8)).heap.size (W'.setCell ⟨w7.heap.size, 6, none⟩ (.slice A8 (k + 1) c8)) (.slice A3 n3 c3) a.ops := HOP.out.keep (fun k hk => hkF k (by omega) (by omega) (by omega)) (fun k hk => by simp [World.setCell]; omega)
          have hOB : OldO (W'.setCell ⟨w7.heap.size, 6, none⟩ (.slice A8 (k + 1) c8)).heap.size (W'.setCell ⟨w7.heap.size, 6, none⟩ (.slice A8 (k + 1) c8)) (.slice A9 n9 c9) a.ops := HOB.out.keep (fun k hk => hkF k (by omega) (by omega) (by omega)) (fun k hk => by simp [World.setCell]; omega)
          have hBF : Below w.heap.size w (W'.setCell ⟨w7.heap.size, 6, none⟩ (.slice A8 (k + 1) c8)) := (((HLOW.out.trans (hlow.mono (by omega))).alloc (by rw [hsz]; omega) (.cells #[.int .i64 (-8), .slice none 0 0, .int .i64 0, .int .u32 0, .int .i64 0, .int .i64 0, .int .u32 0] 47)).grown hgr (by rw [World.size_alloc, hsz]; omega) (fun k hk => by have := hown k hk; omega)).setCell (p := ⟨w7.heap.size, 6, none⟩) (by show w.heap.size ≤ w7.heap.size; omega) _
          have CSF := Lib.hid (SA.out (.slice A9 n9 c9) (.slice A3 n3 c3) _ hOB hOP)
          obtain ⟨d0, d1, d2, d3, d4, d5, d6, d7⟩ := hpaW.cells
          obtain ⟨⟨g0, g1, g2, g3, g4, g5, g6, g7⟩, h0, h1, h2, h3, h4, h5, h6, h7⟩ := box8 hpaW'
          have hpaL : w7.heap.size < W'.heap.size := by omega
          have HR := Lib.hid hrun
          have HBF := Lib.hid hBF
          have HPF := Lib.hid hpF
          have HPBF := Lib.hid hpbF
          clear hrun hrow' hrow hgr hkW hkF hsW hpaW hpaW' hpF hpbF hOP hOB hBF hkp hown hlow i0 hi hz0 hz1 hz2 hl16 hsz
          go_upto_region 19 with (at_builtin; refine wpList_append_ran rfl _ _ _ rfl rfl rfl HR.out ?_)
          clear d0 d1 d2 d3 d4 d5 d6 d7 g0 g1 g2 g3 g4 g5 g6 g7 h0 h1 h2 h3 h4 h5 h6 h7 hpaL HR
          generalize W'.setCell ⟨w7.heap.size, 6, none⟩ (.slice A8 (k + 1) c8) = WF at HBF HPF HPBF CSF ⊢
          obtain ⟨a0, a1, a2, a3, a4, a5, a6, a7⟩ := HPBF.out.cells
          obtain ⟨f0, f1, f2, f3, f4, f5, f6, f7⟩ := HPF.out.cells
          go_wp2_with fail
          refine CSF.out.mono ?_
          rintro e wz ⟨rfl, BZ⟩
          have HBZ := Lib.hid (HBF.out.trans (BZ.mono HBF.out.size))
          clear BZ CSF a0 a1 a2 a3 a4 a5 a6 a7 f0 f1 f2 f3 f4 f5 f6 f7
          go_wp2_with fail
          go_ret
          exact ⟨rfl, HBZ.out⟩
  · have heaI : ¬ (ea : Int) = 0 := by omega
    have CS6 := Lib.hid (SA.out (.slice Au n0 cu) (.slice A3 n3 c3) w6 (OpsAt.on HB6.out HI.out) HO6.out)
    obtain ⟨a0, a1, a2, a3, a4, a5, a6, a7⟩ := HE6.out.cells
    obtain ⟨f0, f1, f2, f3, f4, f5, f6, f7⟩ := HF6.out.cells
    clear DA HL16
    go_wp2_with fail
    refine CS6.out.mono ?_
    rintro e w7 ⟨rfl, B7⟩
    have HB7 := Lib.hid (HB6.out.trans (B7.mono HB6.out.size))
    clear B7 CS6 a0 a1 a2 a3 a4 a5 a6 a7 f0 f1 f2 f3 f4 f5 f6 f7 HE6 HF6 HB6 HO6
    go_wp2_with fail
    go_ret
    exact ⟨rfl, HB7.out⟩

end Go.Proofs.Ytffehnojcajhiaa.Wire.Entry

namespace Go.Proofs.Ytffehnojcajhiaa.entryKeeps
open Go Go.ChangeShapes Go.WideShapes Go.ChangeAt Go.RowKit Go.Proofs.Ytffehnojcajhiaa.Law Go.Proofs.Ytffehnojcajhiaa.Wire Go.Proofs.Ytffehnojcajhiaa.Wire.Entry

theorem own : ownKnob Try.prog.godebug = none := by kernel_rfl
theorem laidOut : laidOutB Try.prog = true := by kernel_rfl

set_option maxRecDepth 100000 in
theorem lifted (os : Os) (started : os.Started) (H : Type) (enc : TypeId × Value → H) :
    ReturnsInHanded {} Try.checked os 6 .any (Rows.entryKeepsSpec.pre6 enc Try.prog Try.f6 Rows.entryKeepsRow.domain false) (Rows.entryKeepsSpec.post enc Try.prog Try.f6 false true false false) := by
  refine returnsInHanded_of_change_sized (C := Try.checked) own started (by kernel_rfl) Try.func6
    (ChangeSpec.witness6 (enc := enc) (C := Try.checked) false ⟨#[], #[.agg #[.int .i64 0, .int .i64 0, .int .i64 0, .int .i64 0, .string ⟨#[]⟩, .int .u32 0, .slice none 0 0, .int .i64 0]], []⟩ 8 (by kernel_rfl) (by kernel_rfl) (by kernel_rfl) (by kernel_rfl)) ?_
  intro W base args ds gs before hval0 hW _ hsz0 _
  have hreach' : (DataW.weightsEach Try.prog (Try.f6.params.toList ++ []) (ds ++ gs)).all (· ≤ reachBytes) = true := hsz0
  have hval : ∀ (j : Nat) t v, Try.f6.params[j]? = some t → args[j]? = some v → Value.okWide Try.prog W .any base t v := hval0
  have hW0 := hW
  obtain ⟨p, q, hA0, hV, rfl, hfz, hnd⟩ := hW
  have hA : DataW.TrodAll enc Try.prog W 0 (fun _ => true) true Try.f6.params.toList args.toList ds p := hA0
  rw [Try.params6] at hA hval hreach'
  have hV' : DataW.TrodVars enc Try.prog W (fun _ => true) [] gs q := hV
  obtain ⟨rfl, rfl⟩ := trodVars_none hV'
  clear hsz0 hA0 hval0
  obtain ⟨v0, vs0, d0, ds0, p0, q0, hargs, rfl, rfl, h0, r0⟩ := trodAll_cons hA
  obtain ⟨rfl, rfl, rfl⟩ := trodAll_nil r0
  obtain rfl : args = #[v0] := by cases args; simp_all
  have hpost : ∀ (e : Ending) (W' : World), e = .returned (.bool true) ∧ Below W.heap.size W W' → ∃ v, e = .returned v ∧ Rows.entryKeepsSpec.post enc Try.prog Try.f6 false true false false W #[v0] v W' := fun e W' ⟨he, hB⟩ =>
    ⟨_, he, law_post laidOut (by kernel_rfl) rfl Try.underlying4 rfl hW0 rfl hB⟩
  refine Calls.mono ?_ hpost
  simp only [DataW.weightsEach, List.append_nil] at hreach'
  have hw0 := hreach'
  obtain ⟨x0, u0, rfl, hI0, hF0⟩ := open_ent (hval 0 29 v0 rfl rfl) h0 hw0
  exact entryKeeps_law x0 hF0 u0 W hI0

theorem holds : Rows.EntryKeepsSaid :=
  OpenClaim.holds_of_wide 6 Try.f6 rfl rfl rfl rfl rfl rfl rfl ⟨rfl, rfl, rfl, rfl, rfl⟩ rfl rfl rfl rfl rfl (by kernel_rfl) Try.func6 (by kernel_rfl)
    (of_decide_eq_true (by kernel_rfl)) (by unfold Func.isWrapper; first | (rw [if_pos (by decide +kernel)]; kernel_rfl) | (rw [if_neg (by decide +kernel)]; exact ⟨rfl, rfl⟩))
    (fun os started H enc _ => lifted os started H enc)
end Go.Proofs.Ytffehnojcajhiaa.entryKeeps
