/-
  Contracts of the document's bare, num and at. Contract of the document's Good. Contract of the document's items, for entries without operators. Contract of the document's items for a graph; of items for every entry in form.
-/
import Derived.Test.YtffehnojcajhiaaEgE
import Derived.Test.YtffehnojcajhiaaEgC
import Derived.Test.YtffehnojcajhiaaEgD
namespace Go.Proofs.Ytffehnojcajhiaa.Wire.Entry
open Go Go.RowKit Go.Proofs.Ytffehnojcajhiaa.Law

set_option maxRecDepth 100000 in
set_option maxHeartbeats 2000000 in
theorem bare_calls (r : Rec) (q : Bool) (hq : q = true ↔ r.bare) (w : World) : Calls Try.prog 23 #[recV r] w (RetB w q) := by
  have HB : Hid (∀ o, Below w.heap.size w (w.alloc o)) := Lib.hid fun o => (Below.refl _ _).alloc (Nat.le_refl _) o
  obtain ⟨p, q1, a, key, val⟩ := r
  have NO : Hid (∀ (x : Prop), ¬ x → ((⟨p, q1, a, key, val⟩ : Rec).bare → x) → q = false) := Lib.hid fun x hx h => b_false hq fun hb => hx (h hb)
  by_cases h1 : p = 0
  · by_cases h2 : q1 = 0
    · by_cases h3 : a = 0
      · by_cases h4 : key = noT
        · by_cases h5 : val = 0
          · obtain rfl : q = true := hq.2 ⟨h1, h2, h3, h4, h5⟩
            subst h1 h2 h3 h4 h5
            have hk : noT.toList.isEmpty = true := by rw [no_list]; rfl
            clear hq NO
            go_enter Try.func23, Try.ntmps23
            go_wp2_with fail
            go_ret
            exact ⟨rfl, HB.out _⟩
          · obtain rfl : q = false := NO.out _ h5 (fun h => h.2.2.2.2)
            subst h1 h2 h3 h4
            have hk : noT.toList.isEmpty = true := by rw [no_list]; rfl
            have h5' : ((val : Int) == 0) = false := beq_eq_false_iff_ne.2 (by omega)
            clear hq NO
            go_enter Try.func23, Try.ntmps23
            go_wp2_with fail
            go_ret
            exact ⟨rfl, HB.out _⟩
        · obtain rfl : q = false := NO.out _ h4 (fun h => h.2.2.2.1)
          have hk : key.toList.isEmpty = false := by
            cases hq2 : key.toList.isEmpty with
            | false => rfl
            | true =>
              refine absurd ((Lib.bytes_beq_false_iff key noT).2 h4) ?_
              rw [no_list, List.isEmpty_iff.1 hq2]
              decide
          subst h1 h2 h3
          clear hq NO
          go_enter Try.func23, Try.ntmps23
          go_wp2_with fail
          go_ret
          exact ⟨rfl, HB.out _⟩
      · obtain rfl : q = false := NO.out _ h3 (fun h => h.2.2.1)
        have hb : ((a : Int) == 0) = false := beq_eq_false_iff_ne.2 h3
        subst h1 h2
        clear hq NO
        go_enter Try.func23, Try.ntmps23
        go_wp2_with fail
        go_ret
        exact ⟨rfl, HB.out _⟩
    · obtain rfl : q = false := NO.out _ h2 (fun h => h.2.1)
      have hb : ((q1 : Int) == 0) = false := beq_eq_false_iff_ne.2 h2
      subst h1
      clear hq NO
      go_enter Try.func23, Try.ntmps23
      go_wp2_with fail
      go_ret
      exact ⟨rfl, HB.out _⟩
  · obtain rfl : q = false := NO.out _ h1 (fun h => h.1)
    have hb : ((p : Int) == 0) = false := beq_eq_false_iff_ne.2 h1
    clear hq NO
    go_enter Try.func23, Try.ntmps23
    go_wp2_with fail
    go_ret
    exact ⟨rfl, HB.out _⟩

set_option maxRecDepth 100000 in
theorem num_calls (n : Int) (w : World) : Calls Try.prog 38 #[.int .i64 n] w (fun e W => e = .returned (.agg #[.int .i64 0, .int .i64 n, .string ⟨#[]⟩, .slice none 0 0]) ∧ Below w.heap.size w W) := by
  have hB := (Below.refl w.heap.size w).alloc (Nat.le_refl _) (.cells #[.int .i64 0, .int .i64 n, .string ⟨#[]⟩, .slice none 0 0] 71)
  have hfin := heap_alloc_new w (.cells #[.int .i64 0, .int .i64 n, .string ⟨#[]⟩, .slice none 0 0] 71)
  go_enter Try.func38, Try.ntmps38
  go_wp2_with fail
  generalize w.alloc (.cells #[.int .i64 0, .int .i64 n, .string ⟨#[]⟩, .slice none 0 0] 71) = W at hfin hB ⊢
  have hc : W.cell? ⟨w.heap.size, 0, none⟩ = some (.int .i64 0) ∧ W.cell? ⟨w.heap.size, 1, none⟩ = some (.int .i64 n) ∧ W.cell? ⟨w.heap.size, 2, none⟩ = some (.string ⟨#[]⟩) ∧ W.cell? ⟨w.heap.size, 3, none⟩ = some (.slice none 0 0) := by
    refine ⟨?_, ?_, ?_, ?_⟩ <;> simp [World.cell?, hfin]
  obtain ⟨p0, p1, p2, p3⟩ := hc
  exact bodyPost_ret (v := .agg #[.int .i64 0, .int .i64 n, .string ⟨#[]⟩, .slice none 0 0]) (by simp [results, Try.results38, go_sem, p0, p1, p2, p3]) rfl ⟨rfl, hB⟩

end Go.Proofs.Ytffehnojcajhiaa.Wire.Entry

namespace Go.Proofs.Ytffehnojcajhiaa.Wire.Entry
open Go Go.RowKit Go.Proofs.Ytffehnojcajhiaa.Law

set_option maxRecDepth 100000 in
set_option maxHeartbeats 8000000 in
theorem refGood_calls (e : Ent) (hw : e.wf) (u : Value) (w : World) (h : OldO w.heap.size w u e.ops) (g : Bool) (hg : g = true ↔ e.good) : Calls Try.prog 12 #[entV e u] w (RetB w g) := by
  obtain ⟨A, cap, rfl, _⟩ := h.form
  obtain ⟨kind, r, ops, n⟩ := e
  obtain ⟨len, hlen⟩ : ∃ len, ops.length = len := ⟨_, rfl⟩
  obtain ⟨nr, hnr⟩ := exB r.bare
  have CB : Hid (∀ W, Calls Try.prog 23 #[recV r] W (RetB W nr)) := Lib.hid fun W => bare_calls r nr hnr W
  obtain ⟨ng, hng⟩ : ∃ ng : Bool, ((len : Int) == 0) = ng := ⟨_, rfl⟩
  obtain ⟨nn, hnn⟩ : ∃ nn : Bool, ((n : Int) == 0) = nn := ⟨_, rfl⟩
  have hNG : ng = true ↔ ops = [] := by rw [← hng, beq_iff_eq, ← List.length_eq_zero_iff, hlen]; omega
  have hNN : nn = true ↔ n = 0 := by rw [← hnn, beq_iff_eq]
  have hE0 := EBox.new w ⟨kind, r, ops, n⟩ (.slice A ops.length cap)
  have hB0 := (Below.refl w.heap.size w).alloc (Nat.le_refl _) (.cells #[.int .i64 kind, .int .i64 r.p, .int .i64 r.q, .int .i64 r.a, .string r.key, .int .u32 (r.val : Nat), .slice A ops.length cap, .int .i64 n] 29)
  have HL := Lib.hid hlen
  have HNR := Lib.hid hnr
  have HI := Lib.hid h
  have HW := Lib.hid hw
  rw [hlen] at hE0 hB0 HI ⊢
  have HE := Lib.hid hE0
  have HB := Lib.hid hB0
  obtain ⟨c0, c1, c2, c3, c4, c5, c6, c7⟩ := hE0.cells
  have HG := Lib.hid hg
  have HNG := Lib.hid hNG
  have HNN := Lib.hid hNN
  clear hlen hnr h hw hE0 hB0 hg hNG hNN
  go_enter Try.func12, Try.ntmps12
  go_upto_region 1 with fail
  generalize w.alloc (.cells #[.int .i64 kind, .int .i64 r.p, .int .i64 r.q, .int .i64 r.a, .string r.key, .int .u32 (r.val : Nat), .slice A len cap, .int .i64 n] 29) = w1 at HE HB c0 c1 c2 c3 c4 c5 c6 c7 ⊢
  simp only at c0 c1 c2 c3 c4 c5 c6 c7
  by_cases k0 : kind = 0
  · subst k0
    have hG0 : g = true ↔ nr = true ∧ nn = true ∧ ng = true := by
      rw [HG.out, HNR.out, HNN.out, HNG.out]
      simp [Ent.good]
      exact fun _ => And.comm
    have HG0 := Lib.hid hG0
    clear hG0
    go_wp2_with fail
    refine (CB.out w1).mono ?_
    rintro e w2 ⟨rfl, hB2⟩
    have HB2 := Lib.hid (HB.out.trans (hB2.mono HB.out.size))
    obtain ⟨d0, d1, d2, d3, d4, d5, d6, d7⟩ := (HE.out.low hB2).cells
    simp only at d0 d1 d2 d3 d4 d5 d6 d7
    clear hB2 CB c0 c1 c2 c3 c4 c5 c6 c7
    cases nr with
    | false =>
      obtain rfl : g = false := by have := HG0.out; simpa using this
      go_wp2_with fail
      go_ret
      exact ⟨rfl, HB2.out⟩
    | true =>
      cases nn with
      | false =>
        obtain rfl : g = false := by have := HG0.out; simpa using this
        go_wp2_with fail
        go_ret
        exact ⟨rfl, HB2.out⟩
      | true =>
        obtain rfl : g = ng := by have := HG0.out; cases ng <;> simpa using this
        go_wp2_with fail
        go_ret
        exact ⟨rfl, HB2.out⟩
  · have b0 : ((kind : Int) == 0) = false := beq_eq_false_iff_ne.2 k0
    by_cases k1 : kind = 1
    · subst k1
      have hG1 : g = true ↔ nn = true ∧ ng = true ∧ 0 ≤ r.p ∧ r.p ≤ 63 ∧ 0 ≤ r.q ∧ 0 ≤ r.a ∧ r.a ≤ 7 ∧ (r.key.size : Int) ≤ 32 := by
        rw [HG.out, HNN.out, HNG.out]
        simp only [Ent.good, Rec.good, true_and, false_and, false_or, or_false, show ¬ ((1 : Int) = 0) by decide, show ¬ ((1 : Int) = 3) by decide, show ¬ ((1 : Int) = 2) by decide, show ¬ ((1 : Int) = 4) by decide, show ¬ ((1 : Int) = 5) by decide]
        constructor
        · rintro ⟨⟨h1, h2, h3, h4, h5, h6⟩, h7, h8⟩
          exact ⟨h8, h7, h1, h2, h3, h4, by omega, by omega⟩
        · rintro ⟨h8, h7, h1, h2, h3, h4, h5, h6⟩
          exact ⟨⟨h1, h2, h3, h4, by omega, by omega⟩, h7, h8⟩
      have HG0 := Lib.hid hG1
      have HB1 : Hid (∀ o, Below w.heap.size w (w1.alloc o)) := Lib.hid fun o => HB.out.alloc HB.out.size o
      have hbl := lt_of_some HE.out
      clear hG1 HG HE HI HW HNR HNN HNG HL HB CB
      have HB := HB1
      cases nn with
      | false =>
        obtain rfl : g = false := by have := HG0.out; simpa using this
        go_wp2_with fail
        go_ret
        exact ⟨rfl, HB.out _⟩
      | true =>
        cases ng with
        | false =>
          obtain rfl : g = false := by have := HG0.out; simpa using this
          go_wp2_with fail
          go_ret
          exact ⟨rfl, HB.out _⟩
        | true =>
          by_cases h1 : 0 ≤ r.p
          · by_cases h2 : r.p ≤ 63
            · by_cases h3 : 0 ≤ r.q
              · by_cases h4 : 0 ≤ r.a
                · by_cases h5 : r.a ≤ 7
                  · by_cases h6 : (r.key.size : Int) ≤ 32
                    · obtain rfl : g = true := HG0.out.2 ⟨rfl, rfl, h1, h2, h3, h4, h5, h6⟩
                      go_wp2_with fail
                      go_ret
                      exact ⟨rfl, HB.out _⟩
                    · obtain rfl : g = false := by have := HG0.out; simpa [h1, h2, h3, h4, h5, h6] using this
                      go_wp2_with fail
                      go_ret
                      exact ⟨rfl, HB.out _⟩
                  · obtain rfl : g = false := by have := HG0.out; simpa [h1, h2, h3, h4, h5] using this
                    go_wp2_with fail
                    go_ret
                    exact ⟨rfl, HB.out _⟩
                · obtain rfl : g = false := by have := HG0.out; simpa [h1, h2, h3, h4] using this
                  go_wp2_with fail
                  go_ret
                  exact ⟨rfl, HB.out _⟩
              · obtain rfl : g = false := by have := HG0.out; simpa [h1, h2, h3] using this
                go_wp2_with fail
                go_ret
                exact ⟨rfl, HB.out _⟩
            · obtain rfl : g = false := by have := HG0.out; simpa [h1, h2] using this
              go_wp2_with fail
              go_ret
              exact ⟨rfl, HB.out _⟩
          · obtain rfl : g = false := by have := HG0.out; simpa [h1] using this
            go_wp2_with fail
            go_ret
            exact ⟨rfl, HB.out _⟩
    · have b1 : ((kind : Int) == 1) = false := beq_eq_false_iff_ne.2 k1
      by_cases k3 : kind = 3
      · subst k3
        have hG3 : g = true ↔ nr = true ∧ goodOps ops ∧ nn = true := by
          rw [HG.out, HNR.out, HNN.out]
          simp [Ent.good]
        have HG0 := Lib.hid hG3
        have hlb : len * 72 ≤ 140737488351232 := by have h1 : ops.length * 72 ≤ 140737488351232 := HW.out.2.2.2.1; have := HL.out; omega
        clear hG3 HG
        go_wp2_with fail
        go_loopw [4] (fun i wr => ∃ k : Nat, i = .int .i64 k ∧ k ≤ len ∧ wr = w1 ∧ Hid (∀ j x, ops[j]? = some x → j < k → x.ins.length ≤ 2)) (fun i _ => len - (intOf i).toNat)
        case atStart => exact ⟨0, rfl, Nat.zero_le _, rfl, Lib.hid fun _ _ _ h => absurd h (Nat.not_lt_zero _)⟩
        case round =>
          obtain ⟨k, rfl, hk, rfl, HNO⟩ := hrel
          by_cases hlt : k < len
          · obtain ⟨x, hx⟩ : ∃ x, ops[k]? = some x := ⟨_, List.getElem?_eq_getElem (by rw [HL.out]; exact hlt)⟩
            obtain ⟨b, off, rfl, hb, hcells⟩ := (OpsAt.low HB.out HI.out).at (by omega)
            obtain ⟨u, ⟨y0, y1, y2, y3, y4, y5, y6⟩, hi⟩ := hcells k x hx
            obtain ⟨A', cap', rfl, _⟩ := hi.form
            obtain ⟨m, hm⟩ : ∃ m, x.ins.length = m := ⟨_, rfl⟩
            rw [hm] at y1
            have HX := Lib.hid hx
            have HM := Lib.hid hm
            have hs1 := HB.out.size
            clear hcells hi hx hm CB
            by_cases hm2 : 2 < m
            · have hmI : 2 < (m : Int) := by omega
              obtain rfl : g = false := by
                cases hgg : g with
                | false => rfl
                | true =>
                  have h9 := (HG0.out.1 hgg).2.1.2 x (List.mem_of_getElem? HX.out)
                  have := HM.out
                  omega
              go_wp2_with fail
              go_ret
              exact ⟨rfl, HB.out⟩
            · have hmI : ¬ 2 < (m : Int) := by omega
              go_wp2_with fail
              go_roundw
              case rel =>
                refine ⟨k + 1, by go_num, by omega, trivial, Lib.hid fun j y hy hj => ?_⟩
                by_cases hjk : j = k
                · subst hjk
                  obtain rfl := Option.some.inj (hy.symm.trans HX.out)
                  rw [HM.out]; omega
                · exact HNO.out j y hy (by omega)
              case measure => simp [intOf]; omega
          · obtain rfl : k = len := by omega
            have hG4 : g = true ↔ nr = true ∧ nn = true ∧ (k : Int) ≤ 16 := by
              rw [HG0.out]
              have hall : ∀ x ∈ ops, x.ins.length ≤ 2 := fun x hx => by
                obtain ⟨j, hj⟩ := List.getElem?_of_mem hx
                exact HNO.out j x hj (by have := (List.getElem?_eq_some_iff.1 hj).1; have := HL.out; omega)
              have := HL.out
              exact ⟨fun h => ⟨h.1, h.2.2, by have := h.2.1.1; omega⟩, fun h => ⟨h.1, ⟨by have := h.2.2; omega, hall⟩, h.2.1⟩⟩
            have HG4 := Lib.hid hG4
            clear hG4 HG0
            go_wp2_with fail
            refine (CB.out wr).mono ?_
            rintro e w2 ⟨rfl, hB2⟩
            have HB2 := Lib.hid (HB.out.trans (hB2.mono HB.out.size))
            obtain ⟨d0, d1, d2, d3, d4, d5, d6, d7⟩ := (HE.out.low hB2).cells
            simp only at d0 d1 d2 d3 d4 d5 d6 d7
            clear hB2 CB c0 c1 c2 c3 c4 c5 c6 c7
            cases nr with
            | false =>
              obtain rfl : g = false := by have := HG4.out; simpa using this
              go_wp2_with fail
              go_ret
              exact ⟨rfl, HB2.out⟩
            | true =>
              cases nn with
              | false =>
                obtain rfl : g = false := by have := HG4.out; simpa using this
                go_wp2_with fail
                go_ret
                exact ⟨rfl, HB2.out⟩
              | true =>
                by_cases h16 : (k : Int) ≤ 16
                · obtain rfl : g = true := HG4.out.2 ⟨rfl, rfl, h16⟩
                  go_wp2_with fail
                  go_ret
                  exact ⟨rfl, HB2.out⟩
                · obtain rfl : g = false := by have := HG4.out; simpa [h16] using this
                  go_wp2_with fail
                  go_ret
                  refine ⟨?_, HB2.out⟩
                  show Ending.returned (.bool (decide ((k : Int) ≤ 16))) = _
                  rw [decide_eq_false (p := (k : Int) ≤ 16) (by omega)]
      · have b3 : ((kind : Int) == 3) = false := beq_eq_false_iff_ne.2 k3
        by_cases k2 : kind = 2 ∨ kind = 4 ∨ kind = 5
        · have hG2 : g = true ↔ nr = true ∧ 0 ≤ n ∧ ng = true := by
            rw [HG.out, HNR.out, HNG.out]
            simp [Ent.good, k0, k1, k3, k2]
            exact fun _ => And.comm
          have HG0 := Lib.hid hG2
          have HX : Hid (∀ W, Below w1.heap.size w1 W → Below w.heap.size w W ∧ EBox W w.heap.size ⟨kind, r, ops, n⟩ (.slice A len cap)) := Lib.hid fun W hW => ⟨HB.out.trans (hW.mono HB.out.size), HE.out.low hW⟩
          clear hG2 HE HI HB HG HW HNN hnn
          rcases k2 with rfl | rfl | rfl
          all_goals
            go_wp2_with fail
            refine (CB.out w1).mono ?_
            rintro e w2 ⟨rfl, hB2⟩
            obtain ⟨hB, hE⟩ := HX.out w2 hB2
            have HB2 := Lib.hid hB
            obtain ⟨d0, d1, d2, d3, d4, d5, d6, d7⟩ := hE.cells
            simp only at d0 d1 d2 d3 d4 d5 d6 d7
            clear hB2 hB hE CB HX c0 c1 c2 c3 c4 c5 c6 c7
            cases nr with
            | false =>
              obtain rfl : g = false := by have := HG0.out; simpa using this
              go_wp2_with fail
              go_ret
              exact ⟨rfl, HB2.out⟩
            | true =>
              by_cases hn : 0 ≤ n
              · obtain rfl : g = ng := by have := HG0.out; cases ng <;> simpa [hn] using this
                go_wp2_with fail
                go_ret
                exact ⟨rfl, HB2.out⟩
              · obtain rfl : g = false := by have := HG0.out; simpa [hn] using this
                go_wp2_with fail
                go_ret
                exact ⟨rfl, HB2.out⟩
        · have hk2 : kind ≠ 2 := fun e => k2 (.inl e)
          have hk4 : kind ≠ 4 := fun e => k2 (.inr (.inl e))
          have hk5 : kind ≠ 5 := fun e => k2 (.inr (.inr e))
          have b2 : ((kind : Int) == 2) = false := beq_eq_false_iff_ne.2 hk2
          have b4 : ((kind : Int) == 4) = false := beq_eq_false_iff_ne.2 hk4
          have b5 : ((kind : Int) == 5) = false := beq_eq_false_iff_ne.2 hk5
          obtain rfl : g = false := b_false HG.out fun h => by
            rcases h with ⟨h, _⟩ | ⟨h, _⟩ | ⟨h, _⟩ | ⟨h, _⟩
            · exact k0 h
            · exact k1 h
            · exact k3 h
            · exact k2 h
          go_wp2_with fail
          go_ret
          exact ⟨rfl, HB.out⟩

end Go.Proofs.Ytffehnojcajhiaa.Wire.Entry

namespace Go.Proofs.Ytffehnojcajhiaa.Wire.Entry
open Go Go.RowKit Go.Proofs.Ytffehnojcajhiaa.Law

/-- Items that can be read in old blocks. -/
def RetRead (w : World) (l : List Item) (e : Ending) (W : World) : Prop := ∃ v, e = .returned v ∧ Old W.heap.size W v l ∧ Below w.heap.size w W

/-- One item, laid as a literal, as a growing list. -/
theorem grow_one (w : World) (lo : Nat) (hlo : lo ≤ w.heap.size) (n : Int) :
    Grow lo (w.heap.size + 1) (w.alloc (.cells #[.int .i64 0, .int .i64 n, .string ⟨#[]⟩, .slice none 0 0] 71)) (.slice (some ⟨w.heap.size, 0, none⟩) 1 1) [iI n] := by
  have h := lit_own w [iI n] (fun _ => .slice none 0 0) #[.int .i64 0, .int .i64 n, .string ⟨#[]⟩, .slice none 0 0] 1 w.heap.size rfl rfl (by decide) rfl (fun _ _ => rfl)
  refine ⟨by simp, fun b hb => ?_, _, h.lower hlo, fun j x hx => ?_⟩
  · simp only [Value.ownBlock, Option.some.injEq] at hb; omega
  · match j, hx with
    | 0, hx => simp at hx; subst hx; exact .nil none 0 _ (fun _ => rfl) rfl

set_option maxRecDepth 100000 in
set_option maxHeartbeats 2000000 in
theorem num_items (k n : Int) (hk : k = 2 ∨ k = 4 ∨ k = 5) (r : Rec) (u : Value) (w : World) : Calls Try.prog 20 #[entV ⟨k, r, [], n⟩ u] w (RetRead w [iI k, iI n]) := by
  have b1 : ((k : Int) == 1) = false := beq_eq_false_iff_ne.2 (by omega)
  have b3 : ((k : Int) == 3) = false := beq_eq_false_iff_ne.2 (by omega)
  clear hk
  have hE0 := EBox.new w ⟨k, r, [], n⟩ u
  have hB0 := (Below.refl w.heap.size w).alloc (Nat.le_refl _) (.cells #[.int .i64 k, .int .i64 r.p, .int .i64 r.q, .int .i64 r.a, .string r.key, .int .u32 (r.val : Nat), u, .int .i64 n] 29)
  have HE0 := Lib.hid hE0
  have HB0 := Lib.hid hB0
  clear hE0 hB0
  go_enter Try.func20, Try.ntmps20
  go_wp2_with fail
  refine (num_calls k _).mono ?_
  rintro e w1 ⟨rfl, B1⟩
  have hE1 := HE0.out.low B1
  have hB1 := HB0.out.trans (B1.mono HB0.out.size)
  have hlt : w.heap.size < w1.heap.size := by have := B1.size; simp at this; omega
  have hG2 := grow_one w1 w.heap.size hB1.size k
  have hB2 := hB1.alloc hB1.size (.cells #[.int .i64 0, .int .i64 k, .string ⟨#[]⟩, .slice none 0 0] 71)
  have hE2 := hE1.low ((Below.refl _ _).alloc (Nat.le_refl _) (.cells #[.int .i64 0, .int .i64 k, .string ⟨#[]⟩, .slice none 0 0] 71))
  have hs2 : (w1.alloc (.cells #[.int .i64 0, .int .i64 k, .string ⟨#[]⟩, .slice none 0 0] 71)).heap.size = w1.heap.size + 1 := by simp
  rw [← hs2] at hG2
  have hc0 : w1.cell? ⟨w.heap.size, 0, none⟩ = some (.int .i64 k) := hE1.cells.1
  have hc7 : w1.cell? ⟨w.heap.size, 7, none⟩ = some (.int .i64 n) := hE1.cells.2.2.2.2.2.2.2
  have HG2 := Lib.hid hG2
  have HB2 := Lib.hid hB2
  have HE2 := Lib.hid hE2
  clear B1 hE1 hB1 hG2 hB2 hE2 hs2 HE0 HB0
  go_wp2_with fail
  refine (num_calls n _).mono ?_
  rintro e w3 ⟨rfl, B3⟩
  have hG3 := HG2.out.below B3
  have hB3 := HB2.out.trans (B3.mono HB2.out.size)
  obtain ⟨v', W', hrun, hG4, hB4⟩ := grow_int hG3 hB3.size n 51 (by show (1 + 1) * 56 ≤ _; decide)
  have HR := Lib.hid hrun
  have HF := Lib.hid (hG4.items.mono (fun _ h => h.2) : Old W'.heap.size W' v' [iI k, iI n])
  have HB4 := Lib.hid (hB3.trans hB4)
  clear hrun hG4 hB4 hG3 hB3 B3 HG2 HB2 HE2 hc0 hc7
  go_wp2_with (at_builtin; refine wpList_append_ran rfl _ _ _ rfl rfl rfl HR.out ?_)
  go_ret
  exact ⟨_, rfl, HF.out, HB4.out⟩

theorem rec_flat (r : Rec) : (#[.int .i64 0, .int .i64 r.p, .string ⟨#[]⟩, .slice none 0 0, .int .i64 0, .int .i64 r.q, .string ⟨#[]⟩, .slice none 0 0, .int .i64 0, .int .i64 r.a, .string ⟨#[]⟩, .slice none 0 0, .int .i64 1, .int .i64 0, .string r.key, .slice none 0 0, .int .i64 0, .int .i64 (r.val : Nat), .string ⟨#[]⟩, .slice none 0 0] : Array Value).toList = flat [iI r.p, iI r.q, iI r.a, iT r.key, iI (r.val : Nat)] (fun _ => .slice none 0 0) := rfl

set_option maxRecDepth 100000 in
set_option maxHeartbeats 4000000 in
theorem rec_items (r : Rec) (hv : r.val < 4294967296) (ops : List Opr) (n : Int) (u : Value) (w : World) : Calls Try.prog 20 #[entV ⟨1, r, ops, n⟩ u] w (RetRead w (recL 1 r)) := by
  have hv1 : -9223372036854775808 ≤ ((r.val : Nat) : Int) := by omega
  have hv2 : ((r.val : Nat) : Int) ≤ 9223372036854775807 := by omega
  clear hv
  have hE0 := EBox.new w ⟨1, r, ops, n⟩ u
  have hB0 := (Below.refl w.heap.size w).alloc (Nat.le_refl _) (.cells #[.int .i64 1, .int .i64 r.p, .int .i64 r.q, .int .i64 r.a, .string r.key, .int .u32 (r.val : Nat), u, .int .i64 n] 29)
  have HE0 := Lib.hid hE0
  have HB0 := Lib.hid hB0
  clear hE0 hB0
  go_enter Try.func20, Try.ntmps20
  go_wp2_with fail
  refine (num_calls 1 _).mono ?_
  rintro e w1 ⟨rfl, B1⟩
  have hE1 := HE0.out.low B1
  have hB1 := HB0.out.trans (B1.mono HB0.out.size)
  have hlt : w.heap.size < w1.heap.size := by have := B1.size; simp at this; omega
  have hO2 := lit_own w1 [iI 1] (fun _ => .slice none 0 0) #[.int .i64 0, .int .i64 1, .string ⟨#[]⟩, .slice none 0 0] 1 w1.heap.size rfl rfl (by decide) rfl (fun _ _ => rfl)
  have hO3 := hO2.below ((Below.refl _ _).alloc (Nat.le_refl _) (.cells #[.int .i64 r.p, .int .i64 r.q, .int .i64 r.a, .string r.key, .int .u32 (r.val : Nat)] 24))
  have hB3 := (hB1.alloc hB1.size (.cells #[.int .i64 0, .int .i64 1, .string ⟨#[]⟩, .slice none 0 0] 71)).alloc (by rw [World.size_alloc]; have := hB1.size; omega) (.cells #[.int .i64 r.p, .int .i64 r.q, .int .i64 r.a, .string r.key, .int .u32 (r.val : Nat)] 24)
  have hR3 := heap_alloc_new (w1.alloc (.cells #[.int .i64 0, .int .i64 1, .string ⟨#[]⟩, .slice none 0 0] 71)) (.cells #[.int .i64 r.p, .int .i64 r.q, .int .i64 r.a, .string r.key, .int .u32 (r.val : Nat)] 24)
  rw [World.size_alloc] at hR3
  have hs3 : ((w1.alloc (.cells #[.int .i64 0, .int .i64 1, .string ⟨#[]⟩, .slice none 0 0] 71)).alloc (.cells #[.int .i64 r.p, .int .i64 r.q, .int .i64 r.a, .string r.key, .int .u32 (r.val : Nat)] 24)).heap.size = w1.heap.size + 2 := by simp
  obtain ⟨hc0, hc1, hc2, hc3, hc4, hc5, _, _⟩ := hE1.cells
  simp only at hc0 hc1 hc2 hc3 hc4 hc5
  have HO3 := Lib.hid hO3
  have HB3 := Lib.hid hB3
  have HR3 := Lib.hid hR3
  have HS3 := Lib.hid hs3
  clear B1 hE1 hB1 hO2 hO3 hB3 hR3 hs3 HE0 HB0
  go_wp2_with fail
  have hO3 := HO3.out
  have hB3 := HB3.out
  have hR3 := HR3.out
  have hs3 := HS3.out
  clear HO3 HB3 HR3 HS3 hc0 hc1 hc2 hc3 hc4 hc5
  generalize ((w1.alloc (.cells #[.int .i64 0, .int .i64 1, .string ⟨#[]⟩, .slice none 0 0] 71)).alloc (.cells #[.int .i64 r.p, .int .i64 r.q, .int .i64 r.a, .string r.key, .int .u32 (r.val : Nat)] 24)) = w3 at hO3 hB3 hR3 hs3 ⊢
  obtain ⟨i, hi⟩ : ∃ i, w1.heap.size = i := ⟨_, rfl⟩
  simp only [hi] at hO3 hR3 hs3 hlt ⊢
  have HX : Hid (∀ W, Below w3.heap.size w3 W → Below i w3 W ∧ W.heap[i + 1]? = some (.cells #[.int .i64 r.p, .int .i64 r.q, .int .i64 r.a, .string r.key, .int .u32 (r.val : Nat)] 24)) := Lib.hid fun W hW => ⟨hW.mono (by omega), (hW.block (i + 1) (by omega)).trans hR3⟩
  have HC : Hid (∀ n W, Calls Try.prog 38 #[.int .i64 n] W fun e W' => e = .returned (.agg #[.int .i64 0, .int .i64 n, .string ⟨#[]⟩, .slice none 0 0]) ∧ Below W.heap.size W W') := Lib.hid fun n W => num_calls n W
  have HO3 := Lib.hid hO3
  have HB3 := Lib.hid hB3
  have hsw : w.heap.size ≤ w3.heap.size := by omega
  have hi3 : i + 2 ≤ w3.heap.size := by omega
  have HI := Lib.hid hlt
  clear hO3 hB3 hR3 hs3 hi hlt
  refine wp_region_noPanic ?_
  refine wp_region_held_tail (C := fun w' => Below i w3 w' ∧ w'.heap[i + 1]? = some (.cells #[.int .i64 r.p, .int .i64 r.q, .int .i64 r.a, .string r.key, .int .u32 (r.val : Nat)] 24)) [0, 1, 2, 4, 5, 7, 8, 10, 11, 12, 13, 14, 15] [3, 6, 9, 16, 17, 18, 19] 19 (by kernel_rfl) (by kernel_rfl) (fun _ _ _ _ _ h => h) ?_ ?_
  · exact HX.out _ (Below.refl _ _).drew
  iterate 13
    refine heldI_step (v := ?_) rfl (by rfl) (fun w' hw' => ?_) ?_
    rotate_left
    · have hx3 := hw'.2
      obtain ⟨k0, k1, k2, k3, k4⟩ := box5_cells hx3
      clear hx3 hw'
      go_simp
      all_goals with_reducible rfl
    simp only [Act.put, List.getElem_toArray, List.getElem_cons_succ, List.getElem_cons_zero, List.setIfInBounds_toArray, List.set_cons_succ, List.set_cons_zero]
  refine heldI_nil ?_
  refine seqI_step rfl ?_
  go_wp2_with (go_at_call 38; ((with_reducible refine (HC.out _ _).mono ?_); rintro e W1 ⟨rfl, B1⟩; have T1 := (Below.refl w3.heap.size w3).drew.trans (B1.mono (Nat.le_refl _))))
  refine ⟨HX.out _ T1, ?_⟩
  clear B1
  have s1 := T1.size
  have H1 := Lib.hid T1
  clear T1
  refine seqI_step rfl ?_
  go_wp2_with (go_at_call 38; ((with_reducible refine (HC.out _ _).mono ?_); rintro e W2 ⟨rfl, B2⟩; have T2 := H1.out.trans (B2.mono s1)))
  refine ⟨HX.out _ T2, ?_⟩
  clear B2 H1
  have s2 := T2.size
  have H2 := Lib.hid T2
  clear T2
  refine seqI_step rfl ?_
  go_wp2_with (go_at_call 38; ((with_reducible refine (HC.out _ _).mono ?_); rintro e W3 ⟨rfl, B3⟩; have T3 := H2.out.trans (B3.mono s2)))
  refine ⟨HX.out _ T3, ?_⟩
  clear B3 H2
  have s3 := T3.size
  have H3 := Lib.hid T3
  clear T3
  refine seqI_step rfl ?_
  go_wp2_with (go_at_call 38; ((with_reducible refine (HC.out _ _).mono ?_); rintro e W4 ⟨rfl, B4⟩; have T4 := H3.out.trans (B4.mono s3)))
  refine ⟨HX.out _ T4, ?_⟩
  clear B4 H3
  have s4 := T4.size
  have H4 := Lib.hid T4
  clear T4
  have hO4 := (HO3.out.below H4.out).below ((Below.refl _ _).alloc (Nat.le_refl _) (.cells #[.int .i64 0, .int .i64 r.p, .string ⟨#[]⟩, .slice none 0 0, .int .i64 0, .int .i64 r.q, .string ⟨#[]⟩, .slice none 0 0, .int .i64 0, .int .i64 r.a, .string ⟨#[]⟩, .slice none 0 0, .int .i64 1, .int .i64 0, .string r.key, .slice none 0 0, .int .i64 0, .int .i64 (r.val : Nat), .string ⟨#[]⟩, .slice none 0 0] 71))
  have hL4 := lit_own W4 [iI r.p, iI r.q, iI r.a, iT r.key, iI (r.val : Nat)] (fun _ => .slice none 0 0) #[.int .i64 0, .int .i64 r.p, .string ⟨#[]⟩, .slice none 0 0, .int .i64 0, .int .i64 r.q, .string ⟨#[]⟩, .slice none 0 0, .int .i64 0, .int .i64 r.a, .string ⟨#[]⟩, .slice none 0 0, .int .i64 1, .int .i64 0, .string r.key, .slice none 0 0, .int .i64 0, .int .i64 (r.val : Nat), .string ⟨#[]⟩, .slice none 0 0] 5 W4.heap.size rfl rfl (by decide) (rec_flat r) (fun _ _ => rfl)
  obtain ⟨v', W', hrun, O', G', _⟩ := run_append_items (W4.alloc (.cells #[.int .i64 0, .int .i64 r.p, .string ⟨#[]⟩, .slice none 0 0, .int .i64 0, .int .i64 r.q, .string ⟨#[]⟩, .slice none 0 0, .int .i64 0, .int .i64 r.a, .string ⟨#[]⟩, .slice none 0 0, .int .i64 1, .int .i64 0, .string r.key, .slice none 0 0, .int .i64 0, .int .i64 (r.val : Nat), .string ⟨#[]⟩, .slice none 0 0] 71)) 51 hO4 W4.heap.size 0 5 (m := [iI r.p, iI r.q, iI r.a, iT r.key, iI (r.val : Nat)]) (u := fun _ => .slice none 0 0)
    (fun j x hx => by rw [Nat.zero_add]; exact (hL4.cells rfl hx).1) (fun _ _ => rfl) (by show (1 + 5) * 56 ≤ _; decide) (by rw [World.size_alloc]; omega)
  have hob : ∀ k, (Value.slice (some ⟨i, 0, none⟩) 1 1).ownBlock = some k → k = i := fun k hk => by simp only [Value.ownBlock, Option.some.injEq] at hk; exact hk.symm
  have hB5 : Below w.heap.size w W' := ((HB3.out.trans (H4.out.mono hsw)).alloc (by omega) (.cells #[.int .i64 0, .int .i64 r.p, .string ⟨#[]⟩, .slice none 0 0, .int .i64 0, .int .i64 r.q, .string ⟨#[]⟩, .slice none 0 0, .int .i64 0, .int .i64 r.a, .string ⟨#[]⟩, .slice none 0 0, .int .i64 1, .int .i64 0, .string r.key, .slice none 0 0, .int .i64 0, .int .i64 (r.val : Nat), .string ⟨#[]⟩, .slice none 0 0] 71)).grown G' (by rw [World.size_alloc]; omega) (fun k hk => by have := (hO4.1.lt k hk).1; have := HI.out; omega)
  have hF : Old W'.heap.size W' v' (recL 1 r) := O'.items (fun b hb => (O'.1.lt b hb).2) (fun j x hx => by
    have hv : (if j < [iI 1].length then (Value.slice none 0 0) else Value.slice none 0 0) = Value.slice none 0 0 := by split <;> rfl
    show Items _ _ (if j < [iI 1].length then (Value.slice none 0 0) else Value.slice none 0 0) _
    rw [hv]
    exact rec_kids 1 r j x hx)
  have HR := Lib.hid hrun
  have HF := Lib.hid hF
  have HB5 := Lib.hid hB5
  have HB6 := Lib.hid (H4.out.alloc s4 (.cells #[.int .i64 0, .int .i64 r.p, .string ⟨#[]⟩, .slice none 0 0, .int .i64 0, .int .i64 r.q, .string ⟨#[]⟩, .slice none 0 0, .int .i64 0, .int .i64 r.a, .string ⟨#[]⟩, .slice none 0 0, .int .i64 1, .int .i64 0, .string r.key, .slice none 0 0, .int .i64 0, .int .i64 (r.val : Nat), .string ⟨#[]⟩, .slice none 0 0] 71))
  have HB8 := Lib.hid (show Below i w3 W' ∧ W'.heap[i + 1]? = some (.cells #[.int .i64 r.p, .int .i64 r.q, .int .i64 r.a, .string r.key, .int .u32 (r.val : Nat)] 24) from ⟨(HB6.out.mono (by omega)).grown G' (by rw [World.size_alloc]; omega) (fun k hk => Nat.le_of_eq (hob k hk).symm), (G'.block (i + 1) (by rw [World.size_alloc]; omega) (fun e => by have := hob _ e.symm; omega)).trans (HX.out _ HB6.out).2⟩)
  clear hrun hF hB5 hO4 hL4 O'
  refine seqI_step rfl ?_
  simp only [List.getElem_toArray, List.getElem_cons_succ, List.getElem_cons_zero]
  go_wp2_with fail
  refine ⟨HX.out _ HB6.out, ?_⟩
  refine seqI_step rfl ?_
  simp only [List.getElem_toArray, List.getElem_cons_succ, List.getElem_cons_zero]
  go_wp2_with (at_builtin; refine wpList_append_ran rfl _ _ _ rfl rfl rfl HR.out ?_)
  refine ⟨HB8.out, ?_⟩
  refine seqI_last rfl ?_
  go_wp2_with fail
  refine NoPanic.normal ?_
  go_wp2_with fail
  go_ret
  exact ⟨_, rfl, HF.out, HB5.out⟩

end Go.Proofs.Ytffehnojcajhiaa.Wire.Entry

namespace Go.Proofs.Ytffehnojcajhiaa.Wire.Entry
open Go Go.RowKit Go.Proofs.Ytffehnojcajhiaa.Law

/-- An item's own block, of a list that grows. -/
abbrev LBox (v : Value) : Obj := .cells #[.int .i64 2, .int .i64 0, .string ⟨#[]⟩, v] 71
abbrev OObj (x : Opr) (u : Value) : Obj := .cells #[.int .i64 x.kind, u, .int .i64 x.arg, .int .u32 (x.num : Nat), .int .i64 x.rounds, .int .i64 x.test, .int .u32 (x.lim : Nat)] 47

theorem set_cell3 {W : World} {b : Nat} {v : Value} (h : W.heap[b]? = some (LBox v)) (u : Value) : (W.setCell ⟨b, 3, none⟩ u).heap[b]? = some (LBox u) := by
  simp [World.setCell, Array.getElem?_modify, h]
theorem box7_cells {W : World} {b : Nat} {x : Opr} {u : Value} (h : W.heap[b]? = some (OObj x u)) :
    W.cell? ⟨b, 0, none⟩ = some (.int .i64 x.kind) ∧ W.cell? ⟨b, 1, none⟩ = some u ∧ W.cell? ⟨b, 2, none⟩ = some (.int .i64 x.arg) ∧ W.cell? ⟨b, 3, none⟩ = some (.int .u32 (x.num : Nat)) ∧
    W.cell? ⟨b, 4, none⟩ = some (.int .i64 x.rounds) ∧ W.cell? ⟨b, 5, none⟩ = some (.int .i64 x.test) ∧ W.cell? ⟨b, 6, none⟩ = some (.int .u32 (x.lim : Nat)) := by
  refine ⟨?_, ?_, ?_, ?_, ?_, ?_, ?_⟩ <;> simp [World.cell?, h]

/-- An item whose list is new is put behind a growing list; what else lay stays. -/
theorem grow_item2 {lo : Nat} {w W : World} {v u : Value} {l m : List Item} (h : Grow lo w.heap.size w v l) (hlo : lo ≤ w.heap.size) (hF : Fresh w W u m) (ty : TypeId) (hroom : (l.length + 1) * 56 ≤ 140737488355328) :
    ∃ v' W', (Builtin.append_ #[51, 51] ty #[v, .slice (some ⟨W.heap.size, 0, none⟩) 1 1]).run Try.prog (W.alloc (.cells #[.int .i64 2, .int .i64 0, .string ⟨#[]⟩, u] 71)) = .ok v' W' ∧ Grow lo W'.heap.size W' v' (l ++ [iL m]) ∧ Below lo w W' ∧
      (∀ b, b < W.heap.size → (b < lo ∨ w.heap.size ≤ b) → W'.heap[b]? = W.heap[b]?) := by
  have hown : ∀ k, v.ownBlock = some k → lo ≤ k ∧ k < w.heap.size := fun k hk => ⟨by obtain ⟨_, _, val, h5, _⟩ := h; exact (h5.1.lt k hk).1, h.2.1 k hk⟩
  have hG := h.below hF.2
  have hs := hF.2.size
  obtain ⟨v', W', h1, h2, h3, _⟩ := hG.append (by omega) (iL m) u (hF.1.mono (fun b hb => ⟨by omega, hb.2, fun e => by have := hown b e; omega⟩)) ty hroom
  exact ⟨v', W', h1, h2, (hF.2.mono hlo).trans ((Below.refl _ _).grown h3 (by omega) (fun k hk => (hown k hk).1)), fun b hb hbl => h3.block b hb (fun e => by have := hown b e.symm; omega)⟩

/-- What a round of the inner loop finds. -/
structure InSt (W0 W : World) (p : Nat) (v : Value) (l : List Item) : Prop where
  box : W.heap[p + 1]? = some (LBox v)
  grow : Grow (p + 2) W.heap.size W v l
  low : Below (p + 1) W0 W
  size : p + 2 ≤ W.heap.size

set_option maxRecDepth 100000 in
set_option maxHeartbeats 4000000 in
theorem deploy_items (ops : List Opr) (hw : ∀ x ∈ ops, x.wf) (hg : goodOps ops) (r : Rec) (n : Int) (u : Value) (w : World) (h : OldO w.heap.size w u ops) : Calls Try.prog 20 #[entV ⟨3, r, ops, n⟩ u] w (RetRead w [iI 3, iL (opsL ops)]) := by
  obtain ⟨A, cap, rfl, hcap⟩ := h.form
  obtain ⟨no, hn⟩ : ∃ no, ops.length = no := ⟨_, rfl⟩
  have h16 : no ≤ 16 := by rw [← hn]; exact hg.1
  rw [hn] at h hcap ⊢
  have hE0 := EBox.new w ⟨3, r, ops, n⟩ (.slice A no cap)
  have hB0 := (Below.refl w.heap.size w).alloc (Nat.le_refl _) (.cells #[.int .i64 3, .int .i64 r.p, .int .i64 r.q, .int .i64 r.a, .string r.key, .int .u32 (r.val : Nat), .slice A no cap, .int .i64 n] 29)
  have HE0 := Lib.hid hE0
  have HB0 := Lib.hid hB0
  have HI := Lib.hid h
  have HN := Lib.hid hn
  have HW := Lib.hid hw
  have HG2 := Lib.hid hg.2
  clear hE0 hB0 h hn hw hg
  go_enter Try.func20, Try.ntmps20
  go_wp2_with fail
  refine (num_calls 3 _).mono ?_
  rintro e w1 ⟨rfl, B1⟩
  have hE1 := HE0.out.low B1
  have hB1 := HB0.out.trans (B1.mono HB0.out.size)
  have hlt : w.heap.size < w1.heap.size := by have := B1.size; simp at this; omega
  have hG2 := grow_one w1 w.heap.size hB1.size 3
  have hB3 := (hB1.alloc hB1.size (.cells #[.int .i64 0, .int .i64 3, .string ⟨#[]⟩, .slice none 0 0] 71)).alloc (by rw [World.size_alloc]; have := hB1.size; omega) (LBox (.slice none 0 0))
  have hR3 := heap_alloc_new (w1.alloc (.cells #[.int .i64 0, .int .i64 3, .string ⟨#[]⟩, .slice none 0 0] 71)) (LBox (.slice none 0 0))
  rw [World.size_alloc] at hR3
  have hE3 := (hE1.low ((Below.refl _ _).alloc (Nat.le_refl _) (.cells #[.int .i64 0, .int .i64 3, .string ⟨#[]⟩, .slice none 0 0] 71))).low ((Below.refl _ _).alloc (Nat.le_refl _) (LBox (.slice none 0 0)))
  have hG3 := hG2.keep (W' := (w1.alloc (.cells #[.int .i64 0, .int .i64 3, .string ⟨#[]⟩, .slice none 0 0] 71)).alloc (LBox (.slice none 0 0))) (hi' := w1.heap.size + 1) (fun b _ hb => Below.heap_alloc _ _ _ (by simp; omega)) (Nat.le_refl _) (by simp)
  have hs3 : ((w1.alloc (.cells #[.int .i64 0, .int .i64 3, .string ⟨#[]⟩, .slice none 0 0] 71)).alloc (LBox (.slice none 0 0))).heap.size = w1.heap.size + 2 := by simp
  have hc0 : w1.cell? ⟨w.heap.size, 0, none⟩ = some (.int .i64 3) := hE1.cells.1
  have HG3 := Lib.hid hG3
  have HB3 := Lib.hid hB3
  have HR3 := Lib.hid hR3
  have HE3 := Lib.hid hE3
  have HS3 := Lib.hid hs3
  clear B1 hE1 hB1 hG2 hG3 hB3 hR3 hE3 hs3 HE0 HB0
  go_wp2_with fail
  have hG3 := HG3.out
  have hB3 := HB3.out
  have hR3 := HR3.out
  have hE3 := HE3.out
  have hs3 := HS3.out
  clear HG3 HB3 HR3 HE3 HS3 hc0
  generalize ((w1.alloc (.cells #[.int .i64 0, .int .i64 3, .string ⟨#[]⟩, .slice none 0 0] 71)).alloc (.cells #[.int .i64 2, .int .i64 0, .string ⟨#[]⟩, .slice none 0 0] 71)) = w3 at hG3 hB3 hR3 hE3 hs3 ⊢
  obtain ⟨i, hi⟩ : ∃ i, w1.heap.size = i := ⟨_, rfl⟩
  simp only [hi] at hG3 hR3 hs3 hlt ⊢
  obtain ⟨b, hb⟩ : ∃ b, w.heap.size = b := ⟨_, rfl⟩
  rw [hb] at hG3 hE3 hlt ⊢
  have HG3 := Lib.hid hG3
  have HB3 := Lib.hid hB3
  have HE3 := Lib.hid hE3
  have HR3 := Lib.hid hR3
  have HS3 := Lib.hid hs3
  have HBB := Lib.hid hb
  clear hG3 hB3 hE3 hR3 hs3 hi hb
  go_loopw [6] (fun s wr => ∃ (k : Nat) (vg : Value), s = .int .i64 k ∧ k ≤ no ∧ wr.heap[i + 1]? = some (LBox vg) ∧ Grow (i + 2) wr.heap.size wr vg (opsL (ops.take k)) ∧ Below (i + 1) w3 wr) (fun s _ => no - (intOf s).toNat)
  case atStart => exact ⟨0, _, rfl, Nat.zero_le _, HR3.out, Grow.nil _ _ _ (Nat.le_refl _), Below.refl _ _⟩
  case round =>
    obtain ⟨k, vg, rfl, hk, hbox, hG, hB⟩ := hrel
    have hsz : i + 2 ≤ wr.heap.size := by have := hB.size; rw [HS3.out] at this; exact this
    have hE : EBox wr b ⟨3, r, ops, n⟩ (.slice A no cap) := (hB.block b (by omega)).trans HE3.out
    have e6 := hE.cells.2.2.2.2.2.2.1
    obtain ⟨Bg, cg, hvg, _⟩ := hG.form
    obtain ⟨lg, hlg⟩ : ∃ lg, (opsL (ops.take k)).length = lg := ⟨_, rfl⟩
    rw [hlg] at hvg
    subst hvg
    have HGo := Lib.hid hG
    have HBo := Lib.hid hB
    have HBox := Lib.hid hbox
    by_cases hlt2 : k < no
    · obtain ⟨y, hy⟩ : ∃ y, ops[k]? = some y := ⟨_, List.getElem?_eq_getElem (by rw [HN.out]; exact hlt2)⟩
      have hym := List.mem_of_getElem? hy
      have hII := OpsAt.low (HB3.out.trans (hB.mono (by rw [HBB.out]; omega))) HI.out
      obtain ⟨ib, io, rfl, _, hcell⟩ := hII.at (by omega)
      obtain ⟨uy, ⟨c0, c1, c2, c3, c4, c5, c6⟩, hiy⟩ := hcell k y hy
      obtain ⟨Ay, cy, rfl, _⟩ := hiy.form
      obtain ⟨ly, hly⟩ : ∃ ly, y.ins.length = ly := ⟨_, rfl⟩
      rw [hly] at c1 hiy
      have hyw := HW.out y hym
      have hl2 : ly ≤ 2 := by rw [← hly]; exact HG2.out y hym
      have HY := Lib.hid hy
      have HIY := Lib.hid hiy
      have HLY := Lib.hid hly
      have hnum1 : ((y.num : Nat) : Int) ≤ 9223372036854775807 := by have := hyw.2.2.2.1; omega
      have hlim1 : ((y.lim : Nat) : Int) ≤ 9223372036854775807 := by have := hyw.2.2.2.2.2.2.1; omega
      have hlgk : lg ≤ 16 := by rw [← hlg, opsL_length, List.length_take]; omega
      have HLG := Lib.hid hlg
      obtain ⟨p, hp⟩ : ∃ p, wr.heap.size = p := ⟨_, rfl⟩
      have hP5 : ((wr.alloc (OObj y (.slice Ay ly cy))).alloc (LBox (.slice none 0 0))).heap[p]? = some (OObj y (.slice Ay ly cy)) := by
        rw [← hp]; exact (Below.heap_alloc _ _ _ (by simp)).trans (heap_alloc_new _ _)
      have hQ5 := heap_alloc_new (wr.alloc (OObj y (.slice Ay ly cy))) (LBox (.slice none 0 0))
      rw [World.size_alloc, hp] at hQ5
      have hs5 : ((wr.alloc (OObj y (.slice Ay ly cy))).alloc (LBox (.slice none 0 0))).heap.size = p + 2 := by simp [hp]
      have hB5 : Below p wr ((wr.alloc (OObj y (.slice Ay ly cy))).alloc (LBox (.slice none 0 0))) := ((Below.refl p wr).alloc (Nat.le_of_eq hp.symm) _).alloc (by rw [World.size_alloc]; omega) _
      have HP5 := Lib.hid hP5
      have HQ5 := Lib.hid hQ5
      have HS5 := Lib.hid hs5
      have HB5 := Lib.hid hB5
      have HPP := Lib.hid hp
      clear hy hcell hII hiy hyw hym hly hlg hP5 hQ5 hs5 hB5 hG hB hbox hE
      go_wp2_with fail
      have hP5 := HP5.out
      have hQ5 := HQ5.out
      have hs5 := HS5.out
      have hB5 := HB5.out
      clear HP5 HQ5 HS5 HB5 c0 c1 c2 c3 c4 c5 c6 e6
      generalize ((wr.alloc (.cells #[.int .i64 y.kind, .slice Ay ly cy, .int .i64 y.arg, .int .u32 (y.num : Nat), .int .i64 y.rounds, .int .i64 y.test, .int .u32 (y.lim : Nat)] 47)).alloc (.cells #[.int .i64 2, .int .i64 0, .string ⟨#[]⟩, .slice none 0 0] 71)) = w5 at hP5 hQ5 hs5 hB5 ⊢
      try simp only [hp]
      obtain ⟨wo, hwo⟩ : ∃ wo, wo = wr := ⟨_, rfl⟩
      rw [← hwo] at HGo HBo HBox HIY HPP hB5
      rw [← hwo, HPP.out] at hsz
      have HP5 := Lib.hid hP5
      have HQ5 := Lib.hid hQ5
      have HS5 := Lib.hid hs5
      have HB5 := Lib.hid hB5
      clear hP5 hQ5 hs5 hB5 hp
      clear hwo
      go_loopw [9] (fun s W => ∃ (m : Nat) (vi : Value), s = .int .i64 m ∧ m ≤ ly ∧ InSt w5 W p vi (insL (y.ins.take m))) (fun s _ => ly - (intOf s).toNat)
      case atStart => exact ⟨0, _, rfl, Nat.zero_le _, HQ5.out, Grow.nil _ _ _ (Nat.le_refl _), Below.refl _ _, Nat.le_of_eq HS5.out.symm⟩
      case round =>
        obtain ⟨m, vi, rfl, hm, hin⟩ := hrel
        obtain ⟨Bi, ci, hvi, _⟩ := hin.grow.form
        obtain ⟨li, hli⟩ : ∃ li, (insL (y.ins.take m)).length = li := ⟨_, rfl⟩
        rw [hli] at hvi
        subst hvi
        have hop : wr.heap[p]? = some (OObj y (.slice Ay ly cy)) := (hin.low.block p (by omega)).trans HP5.out
        have HIN := Lib.hid hin
        have HOP := Lib.hid hop
        have k1 := (box7_cells hop).2.1
        by_cases hlt3 : m < ly
        · obtain ⟨z, hz⟩ : ∃ z, y.ins[m]? = some z := ⟨_, List.getElem?_eq_getElem (by rw [HLY.out]; exact hlt3)⟩
          obtain ⟨jb, jo, rfl, hjb, hjc⟩ := HIY.out.at (by omega)
          have hz5 : wr.cell? ⟨jb, jo + m, none⟩ = some (.int .i64 z) := (hin.low.cell (p := ⟨jb, jo + m, none⟩) (by show jb < p + 1; rw [HBB.out] at hjb; omega)).trans ((HB5.out.cell (p := ⟨jb, jo + m, none⟩) (by show jb < p; rw [HBB.out] at hjb; omega)).trans (hjc m z hz))
          have hjl : jb < wr.heap.size := by have := hin.size; rw [HBB.out] at hjb; omega
          have hjp : jb < p := by rw [HBB.out] at hjb; omega
          have hpl : p + 1 < wr.heap.size := by have := hin.size; omega
          have HX : Hid (∀ W, Below wr.heap.size wr W → W.heap[p]? = some (OObj y (.slice (some ⟨jb, jo, none⟩) ly cy)) ∧ W.heap[p + 1]? = some (LBox (.slice Bi li ci)) ∧ W.cell? ⟨jb, jo + m, none⟩ = some (.int .i64 z)) := Lib.hid fun W hW =>
            ⟨(hW.block p (by omega)).trans hop, (hW.block (p + 1) hpl).trans hin.box, (hW.cell (p := ⟨jb, jo + m, none⟩) hjl).trans hz5⟩
          have HC : Hid (∀ n W, Calls Try.prog 38 #[.int .i64 n] W fun e W' => e = .returned (.agg #[.int .i64 0, .int .i64 n, .string ⟨#[]⟩, .slice none 0 0]) ∧ Below W.heap.size W W') := Lib.hid fun n W => num_calls n W
          have HZ := Lib.hid hz
          have hli2 : li ≤ 2 := by rw [← hli, insL_length, List.length_take]; omega
          have HLI := Lib.hid hli
          clear hjc hz hop hin hli
          go_wp2_with fail
          clear k1 hz5
          refine wp_region_noPanic ?_
          refine wp_region_held_tail (C := fun W => W.heap[p]? = some (OObj y (.slice (some ⟨jb, jo, none⟩) ly cy)) ∧ W.heap[p + 1]? = some (LBox (.slice Bi li ci)) ∧ W.cell? ⟨jb, jo + m, none⟩ = some (.int .i64 z)) [0, 1, 2, 3, 4, 5, 6] [7, 8, 9, 10, 11] 11 (by kernel_rfl) (by kernel_rfl) (fun _ _ _ _ _ h => h) ?_ ?_
          · exact HX.out _ (Below.refl _ _).drew
          iterate 7
            refine heldI_step (v := ?_) rfl (by rfl) (fun w' hw' => ?_) ?_
            rotate_left
            · obtain ⟨hx1, hx2, hx3⟩ := hw'
              obtain ⟨k0, k1, k2, k3, k4, k5, k6⟩ := box7_cells hx1
              obtain ⟨⟨m0, m1, m2, m3⟩, _⟩ := box4_cells hx2
              clear hx1 hx2
              go_simp
              all_goals with_reducible rfl
            simp only [Act.put, List.getElem_toArray, List.getElem_cons_succ, List.getElem_cons_zero, List.setIfInBounds_toArray, List.set_cons_succ, List.set_cons_zero]
          refine heldI_nil ?_
          refine seqI_step rfl ?_
          simp only [List.getElem_toArray, List.getElem_cons_succ, List.getElem_cons_zero]
          go_wp2_with (go_at_call 38; ((with_reducible refine (HC.out _ _).mono ?_); rintro e W1 ⟨rfl, B1⟩; have T1 := (Below.refl wr.heap.size wr).drew.trans (B1.mono (Nat.le_refl _))))
          refine ⟨HX.out _ T1, ?_⟩
          have s1 := T1.size
          have hG1 := HIN.out.grow.below T1
          obtain ⟨v', W', hrun, hG2, hB2⟩ := grow_int hG1 (by omega) z 51 (by rw [HLI.out]; omega)
          rw [← insL_get HZ.out] at hG2
          obtain ⟨Bn, cn, hvn, _⟩ := hG2.form
          obtain ⟨ln, hln⟩ : ∃ ln, (insL (y.ins.take (m + 1))).length = ln := ⟨_, rfl⟩
          rw [hln] at hvn
          subst hvn
          have hbx : W'.heap[p]? = some (OObj y (.slice (some ⟨jb, jo, none⟩) ly cy)) ∧ W'.heap[p + 1]? = some (LBox (.slice Bi li ci)) ∧ W'.cell? ⟨jb, jo + m, none⟩ = some (.int .i64 z) :=
            ⟨(hB2.block p (by omega)).trans (HX.out _ T1).1, (hB2.block (p + 1) (by omega)).trans (HX.out _ T1).2.1, (hB2.cell (p := ⟨jb, jo + m, none⟩) (by show jb < p + 2; omega)).trans (HX.out _ T1).2.2⟩
          have hA1 := HX.out _ (T1.alloc s1 (.cells #[.int .i64 0, .int .i64 z, .string ⟨#[]⟩, .slice none 0 0] 71))
          have hnew : InSt w5 (W'.setCell ⟨p + 1, 3, none⟩ (.slice Bn ln cn)) p (.slice Bn ln cn) (insL (y.ins.take (m + 1))) :=
            ⟨set_cell3 hbx.2.1 _, hG2.keep (fun b hb _ => Below.heap_setCell _ _ _ _ (by show b ≠ p + 1; omega)) (by simp [World.setCell]) (Nat.le_refl _),
              ((HIN.out.low.trans (T1.mono (by omega))).trans (hB2.mono (by omega))).setCell (p := ⟨p + 1, 3, none⟩) (Nat.le_refl _) _,
              by have := hB2.size; simp [World.setCell]; omega⟩
          obtain ⟨⟨q0, q1, q2, q3⟩, z0, z1, z2, z3⟩ := box4_cells hbx.2.1
          have HR := Lib.hid hrun
          have HNW := Lib.hid hnew
          have HBX := Lib.hid hbx
          have HA1 := Lib.hid hA1
          clear hG1 hrun hG2 hB2 hbx hnew hln hA1 B1
          refine seqI_step rfl ?_
          simp only [List.getElem_toArray, List.getElem_cons_succ, List.getElem_cons_zero]
          go_wp2_with fail
          refine ⟨HA1.out, ?_⟩
          refine seqI_step rfl ?_
          simp only [List.getElem_toArray, List.getElem_cons_succ, List.getElem_cons_zero]
          go_wp2_with (at_builtin; refine wpList_append_ran rfl _ _ _ rfl rfl rfl HR.out ?_)
          refine ⟨HBX.out, ?_⟩
          refine seqI_step rfl ?_
          simp only [List.getElem_toArray, List.getElem_cons_succ, List.getElem_cons_zero]
          go_wp2_with fail
          refine ⟨HBX.out, ?_⟩
          refine seqI_last rfl ?_
          simp only [List.getElem_toArray, List.getElem_cons_succ, List.getElem_cons_zero]
          go_wp2_with fail
          refine NoPanic.normal ?_
          go_wp2_with fail
          go_roundw
          case rel => exact ⟨m + 1, _, by go_num, by omega, HNW.out⟩
          case measure => simp [intOf]; omega
        · obtain rfl : m = ly := by omega
          have hG := hin.grow
          rw [List.take_of_length_le (by rw [HLY.out]; exact Nat.le_refl _)] at hG hli
          have hpl : p + 1 < wr.heap.size := by have := hin.size; omega
          have hoi : wo.heap[i + 1]? = some (LBox (.slice Bg lg cg)) := HBox.out
          have hwi : wr.heap[i + 1]? = some (LBox (.slice Bg lg cg)) := (hin.low.block (i + 1) (by omega)).trans ((HB5.out.block (i + 1) (by omega)).trans hoi)
          have HX : Hid (∀ W, Below wr.heap.size wr W → W.heap[i + 1]? = some (LBox (.slice Bg lg cg)) ∧ W.heap[p]? = some (OObj y (.slice Ay m cy)) ∧ W.heap[p + 1]? = some (LBox (.slice Bi li ci))) := Lib.hid fun W hW =>
            ⟨(hW.block (i + 1) (by omega)).trans hwi, (hW.block p (by omega)).trans hop, (hW.block (p + 1) hpl).trans hin.box⟩
          have HC : Hid (∀ n W, Calls Try.prog 38 #[.int .i64 n] W fun e W' => e = .returned (.agg #[.int .i64 0, .int .i64 n, .string ⟨#[]⟩, .slice none 0 0]) ∧ Below W.heap.size W W') := Lib.hid fun n W => num_calls n W
          have HGI := Lib.hid hG
          have HLI := Lib.hid hli
          have hnum0 : -9223372036854775808 ≤ ((y.num : Nat) : Int) := by omega
          have hlim0 : -9223372036854775808 ≤ ((y.lim : Nat) : Int) := by omega
          clear hG hop hin hli hoi hwi
          go_wp2_with fail
          clear k1
          refine wp_region_noPanic ?_
          refine wp_region_held_tail (C := fun W => W.heap[i + 1]? = some (LBox (.slice Bg lg cg)) ∧ W.heap[p]? = some (OObj y (.slice Ay m cy)) ∧ W.heap[p + 1]? = some (LBox (.slice Bi li ci))) [0, 1, 2, 3, 5, 6, 7, 9, 10, 11, 13, 14, 16, 17, 19, 20, 21] [4, 8, 12, 15, 18, 22, 23, 24, 25, 26, 27, 28] 28 (by kernel_rfl) (by kernel_rfl) (fun _ _ _ _ _ h => h) ?_ ?_
          · exact HX.out _ (Below.refl _ _).drew
          iterate 17
            refine heldI_step (v := ?_) rfl (by rfl) (fun w' hw' => ?_) ?_
            rotate_left
            · obtain ⟨hx1, hx2, hx3⟩ := hw'
              obtain ⟨⟨j0, j1, j2, j3⟩, _⟩ := box4_cells hx1
              obtain ⟨k0, k1, k2, k3, k4, k5, k6⟩ := box7_cells hx2
              obtain ⟨⟨m0, m1, m2, m3⟩, _⟩ := box4_cells hx3
              clear hx1 hx2 hx3
              go_simp
              all_goals with_reducible rfl
            simp only [Act.put, List.getElem_toArray, List.getElem_cons_succ, List.getElem_cons_zero, List.setIfInBounds_toArray, List.set_cons_succ, List.set_cons_zero]
          refine heldI_nil ?_
          refine seqI_step rfl ?_
          simp only [List.getElem_toArray, List.getElem_cons_succ, List.getElem_cons_zero]
          go_wp2_with (go_at_call 38; ((with_reducible refine (HC.out _ _).mono ?_); rintro e W1 ⟨rfl, B1⟩; have T1 := (Below.refl wr.heap.size wr).drew.trans (B1.mono (Nat.le_refl _))))
          refine ⟨HX.out _ T1, ?_⟩
          have s1 := T1.size
          have H1 := Lib.hid T1
          clear T1 B1
          refine seqI_step rfl ?_
          simp only [List.getElem_toArray, List.getElem_cons_succ, List.getElem_cons_zero]
          go_wp2_with (go_at_call 38; ((with_reducible refine (HC.out _ _).mono ?_); rintro e W2 ⟨rfl, B2⟩; have T2 := H1.out.trans (B2.mono s1)))
          refine ⟨HX.out _ T2, ?_⟩
          have s2 := T2.size
          have H2 := Lib.hid T2
          clear T2 B2 H1
          refine seqI_step rfl ?_
          simp only [List.getElem_toArray, List.getElem_cons_succ, List.getElem_cons_zero]
          go_wp2_with (go_at_call 38; ((with_reducible refine (HC.out _ _).mono ?_); rintro e W3 ⟨rfl, B3⟩; have T3 := H2.out.trans (B3.mono s2)))
          refine ⟨HX.out _ T3, ?_⟩
          have s3 := T3.size
          have H3 := Lib.hid T3
          clear T3 B3 H2
          refine seqI_step rfl ?_
          simp only [List.getElem_toArray, List.getElem_cons_succ, List.getElem_cons_zero]
          go_wp2_with (go_at_call 38; ((with_reducible refine (HC.out _ _).mono ?_); rintro e W4 ⟨rfl, B4⟩; have T4 := H3.out.trans (B4.mono s3)))
          refine ⟨HX.out _ T4, ?_⟩
          have s4 := T4.size
          have H4 := Lib.hid T4
          clear T4 B4 H3
          refine seqI_step rfl ?_
          simp only [List.getElem_toArray, List.getElem_cons_succ, List.getElem_cons_zero]
          go_wp2_with (go_at_call 38; ((with_reducible refine (HC.out _ _).mono ?_); rintro e W5 ⟨rfl, B5⟩; have T5 := H4.out.trans (B5.mono s4)))
          refine ⟨HX.out _ T5, ?_⟩
          have s5 := T5.size
          have H5 := Lib.hid T5
          clear T5 B5 H4
          refine seqI_step rfl ?_
          simp only [List.getElem_toArray, List.getElem_cons_succ, List.getElem_cons_zero]
          go_wp2_with (go_at_call 38; ((with_reducible refine (HC.out _ _).mono ?_); rintro e W6 ⟨rfl, B6⟩; have T6 := H5.out.trans (B6.mono s5)))
          refine ⟨HX.out _ T6, ?_⟩
          have s6 := T6.size
          have H6 := Lib.hid T6
          clear T6 B6 H5
          have hBo6 : Below p wo W6 := HB5.out.trans ((HIN.out.low.trans (H6.out.mono (by omega))).mono (by omega))
          have hI6 : Items (fun b => p ≤ b ∧ b < W6.heap.size) W6 (.slice Bi li ci) (insL y.ins) := HGI.out.items.keep (fun b hb => H6.out.block b hb.2) (fun b hb => ⟨by omega, by omega⟩)
          have hlit := lit_items (S := fun b => p ≤ b ∧ b < W6.heap.size + 1) W6 (opL y) (fun j => if j = 1 then .slice Bi li ci else .slice none 0 0) _ 7 W6.heap.size rfl rfl (op_flat y Bi li ci) ⟨by omega, by omega⟩ (op_kids y _ (hI6.keep (fun b hb => Below.heap_alloc _ _ _ hb.2) (fun b hb => ⟨hb.1, by omega⟩)))
          have hF : Fresh wo (W6.alloc (.cells #[.int .i64 0, .int .i64 y.kind, .string ⟨#[]⟩, .slice none 0 0, .int .i64 2, .int .i64 0, .string ⟨#[]⟩, .slice Bi li ci, .int .i64 0, .int .i64 y.arg, .string ⟨#[]⟩, .slice none 0 0, .int .i64 0, .int .i64 (y.num : Nat), .string ⟨#[]⟩, .slice none 0 0, .int .i64 0, .int .i64 y.rounds, .string ⟨#[]⟩, .slice none 0 0, .int .i64 0, .int .i64 y.test, .string ⟨#[]⟩, .slice none 0 0, .int .i64 0, .int .i64 (y.lim : Nat), .string ⟨#[]⟩, .slice none 0 0] 71)) (.slice (some ⟨W6.heap.size, 0, none⟩) 7 7) (opL y) := by
            refine ⟨?_, ?_⟩
            · rw [HPP.out, World.size_alloc]; exact hlit
            · rw [HPP.out]; exact hBo6.alloc (by omega) _
          obtain ⟨v', W', hrun, hG2, hB2, hK2⟩ := grow_item2 HGo.out (by rw [HPP.out]; exact hsz) hF 51 (by rw [HLG.out]; omega)
          rw [show iL (opL y) = opI y from rfl, ← opsL_get HY.out] at hG2
          obtain ⟨Bn, cn, hvn, _⟩ := hG2.form
          obtain ⟨ln, hln⟩ : ∃ ln, (opsL (ops.take (k + 1))).length = ln := ⟨_, rfl⟩
          rw [hln] at hvn
          subst hvn
          have hA0 := HX.out _ (H6.out.alloc s6 (.cells #[.int .i64 0, .int .i64 y.kind, .string ⟨#[]⟩, .slice none 0 0, .int .i64 2, .int .i64 0, .string ⟨#[]⟩, .slice Bi li ci, .int .i64 0, .int .i64 y.arg, .string ⟨#[]⟩, .slice none 0 0, .int .i64 0, .int .i64 (y.num : Nat), .string ⟨#[]⟩, .slice none 0 0, .int .i64 0, .int .i64 y.rounds, .string ⟨#[]⟩, .slice none 0 0, .int .i64 0, .int .i64 y.test, .string ⟨#[]⟩, .slice none 0 0, .int .i64 0, .int .i64 (y.lim : Nat), .string ⟨#[]⟩, .slice none 0 0] 71))
          have hA1 := HX.out _ ((H6.out.alloc s6 (.cells #[.int .i64 0, .int .i64 y.kind, .string ⟨#[]⟩, .slice none 0 0, .int .i64 2, .int .i64 0, .string ⟨#[]⟩, .slice Bi li ci, .int .i64 0, .int .i64 y.arg, .string ⟨#[]⟩, .slice none 0 0, .int .i64 0, .int .i64 (y.num : Nat), .string ⟨#[]⟩, .slice none 0 0, .int .i64 0, .int .i64 y.rounds, .string ⟨#[]⟩, .slice none 0 0, .int .i64 0, .int .i64 y.test, .string ⟨#[]⟩, .slice none 0 0, .int .i64 0, .int .i64 (y.lim : Nat), .string ⟨#[]⟩, .slice none 0 0] 71)).alloc (by rw [World.size_alloc]; omega) (.cells #[.int .i64 2, .int .i64 0, .string ⟨#[]⟩, .slice (some ⟨W6.heap.size, 0, none⟩) 7 7] 71))
          rw [World.size_alloc, HPP.out] at hK2
          have hbx : W'.heap[i + 1]? = some (LBox (.slice Bg lg cg)) ∧ W'.heap[p]? = some (OObj y (.slice Ay m cy)) ∧ W'.heap[p + 1]? = some (LBox (.slice Bi li ci)) :=
            ⟨(hK2 (i + 1) (by omega) (.inl (by omega))).trans hA0.1, (hK2 p (by omega) (.inr (Nat.le_refl _))).trans hA0.2.1, (hK2 (p + 1) (by omega) (.inr (by omega))).trans hA0.2.2⟩
          have hnew1 := set_cell3 hbx.1 (.slice Bn ln cn)
          have hnew2 : Grow (i + 2) (W'.setCell ⟨i + 1, 3, none⟩ (.slice Bn ln cn)).heap.size (W'.setCell ⟨i + 1, 3, none⟩ (.slice Bn ln cn)) (.slice Bn ln cn) (opsL (ops.take (k + 1))) :=
            hG2.keep (fun b hb _ => Below.heap_setCell _ _ _ _ (by show b ≠ i + 1; omega)) (by simp [World.setCell]) (Nat.le_refl _)
          have hnew3 : Below (i + 1) w3 (W'.setCell ⟨i + 1, 3, none⟩ (.slice Bn ln cn)) := (HBo.out.trans (hB2.mono (by omega))).setCell (p := ⟨i + 1, 3, none⟩) (Nat.le_refl _) _
          obtain ⟨⟨q0, q1, q2, q3⟩, z0, z1, z2, z3⟩ := box4_cells hbx.1
          rw [World.size_alloc] at hrun
          have HR := Lib.hid hrun
          have HN1 := Lib.hid hnew1
          have HN2 := Lib.hid hnew2
          have HN3 := Lib.hid hnew3
          have HBX := Lib.hid hbx
          have HA0 := Lib.hid hA0
          have HA1 := Lib.hid hA1
          clear hBo6 hI6 hlit hF hrun hG2 hB2 hK2 hbx hnew1 hnew2 hnew3 hln hA0 hA1
          refine seqI_step rfl ?_
          simp only [List.getElem_toArray, List.getElem_cons_succ, List.getElem_cons_zero]
          go_wp2_with fail
          refine ⟨HA0.out, ?_⟩
          refine seqI_step rfl ?_
          simp only [List.getElem_toArray, List.getElem_cons_succ, List.getElem_cons_zero]
          go_wp2_with fail
          refine ⟨HA0.out, ?_⟩
          refine seqI_step rfl ?_
          simp only [List.getElem_toArray, List.getElem_cons_succ, List.getElem_cons_zero]
          go_wp2_with fail
          refine ⟨HA1.out, ?_⟩
          refine seqI_step rfl ?_
          simp only [List.getElem_toArray, List.getElem_cons_succ, List.getElem_cons_zero]
          go_wp2_with (at_builtin; refine wpList_append_ran rfl _ _ _ rfl rfl rfl HR.out ?_)
          refine ⟨HBX.out, ?_⟩
          refine seqI_step rfl ?_
          simp only [List.getElem_toArray, List.getElem_cons_succ, List.getElem_cons_zero]
          go_wp2_with fail
          refine ⟨HBX.out, ?_⟩
          refine seqI_last rfl ?_
          simp only [List.getElem_toArray, List.getElem_cons_succ, List.getElem_cons_zero]
          go_wp2_with fail
          refine NoPanic.normal ?_
          go_wp2_with fail
          go_roundw
          case rel => exact ⟨k + 1, _, by go_num, by omega, HN1.out, HN2.out, HN3.out⟩
          case measure => simp [intOf]; omega
    · obtain rfl : k = no := by omega
      rw [List.take_of_length_le (by rw [HN.out]; exact Nat.le_refl _)] at hG
      have hGl := HG3.out.keep (W' := wr) (hi' := i + 1) (fun b' _ hb' => hB.block b' hb') (Nat.le_refl _) (by omega)
      obtain ⟨v', W', hrun, hG2, hG3, _⟩ := hGl.append (by omega) (iL (opsL ops)) (.slice Bg lg cg) (hG.items.mono (fun x hx => ⟨by omega, hx.2, fun e => by simp only [Value.ownBlock, Option.some.injEq] at e; omega⟩)) 51 (by show (1 + 1) * 56 ≤ _; decide)
      have hob : ∀ q, (Value.slice (some ⟨i, 0, none⟩) 1 1).ownBlock = some q → q = i := fun q hq => by simp only [Value.ownBlock, Option.some.injEq] at hq; exact hq.symm
      have hBf : Below w.heap.size w W' := (HB3.out.trans (hB.mono (by rw [HBB.out]; omega))).grown hG3 (by rw [HBB.out]; omega) (fun q hq => by rw [hob q hq, HBB.out]; omega)
      obtain ⟨⟨q0, q1, q2, q3⟩, _⟩ := box4_cells hbox
      have HR := Lib.hid hrun
      have HF := Lib.hid (hG2.items.mono (fun _ h => h.2) : Old W'.heap.size W' v' [iI 3, iL (opsL ops)])
      have HBF := Lib.hid hBf
      clear hGl hrun hG2 hG3 hBf hG hB hbox hE hob
      go_wp2_with (at_builtin; refine wpList_append_ran rfl _ _ _ rfl rfl rfl HR.out ?_)
      go_ret
      exact ⟨_, rfl, HF.out, HBF.out⟩

end Go.Proofs.Ytffehnojcajhiaa.Wire.Entry
