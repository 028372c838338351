/-
  The walk of the law MailScripts.
-/
import Derived.Test.YtjcgkjjomiapoaaMailPairTake
import Derived.Deep.RegionHeld3
import Derived.Test.YtjcgkjjomiapoaaMailNoneLaw
namespace Go.Proofs.Ytjcgkjjomiapoaa.Mail
open Go Go.RowKit Go.Proofs.Ytjcgkjjomiapoaa.Law

/-- What holds behind each step. -/
def Now (w : World) (p q : Nat) (nodes : Int) (l : List Mail3) (W : World) : Prop := Post W w.heap.size p nodes (l.map Mail3.msg) ∧ RefPost W w.heap.size q nodes l ∧ Below w.heap.size w W

/-- A step's box. -/
def StepBox (W : World) (b : Nat) (s : Step) (u : Value) : Prop := W.heap[b]? = some (.cells #[.int .i64 s.kind, .int .i64 s.i, .int .i64 s.at', .int .u8 (s.turn : Nat), .int .i64 s.mail.src, .int .i64 s.mail.dst, u] 36 (0, 0))
theorem StepBox.cells {W : World} {b : Nat} {s : Step} {u : Value} (h : StepBox W b s u) : StepAt W b 0 s u := by
  unfold StepBox at h
  refine ⟨?_, ?_, ?_, ?_, ?_, ?_, ?_⟩ <;> simp [World.cell?, h]

/-- What the first of the two calls leaves. -/
def Mid (w : World) (p q bx : Nat) (nodes : Int) (s : Step) (u : Value) (l' : List Mail3) (r : Int) (g : FuncId) (args : Array Value) (e : Ending) (W : World) : Prop :=
  e = .returned (.int .i64 r) ∧ W.cell? ⟨bx, 1, none⟩ = some (.int .i64 s.i) ∧ W.cell? ⟨bx, 2, none⟩ = some (.int .i64 s.at') ∧ W.cell? ⟨bx, 3, none⟩ = some (.int .u8 (s.turn : Nat)) ∧ W.cell? ⟨bx, 4, none⟩ = some (.int .i64 s.mail.src) ∧ W.cell? ⟨bx, 5, none⟩ = some (.int .i64 s.mail.dst) ∧ W.cell? ⟨bx, 6, none⟩ = some u ∧ bx < W.heap.size ∧
    Hid (Calls Try.prog g args W fun e W' => e = .returned (.int .i64 r) ∧ W'.cell? ⟨bx, 1, none⟩ = some (.int .i64 s.i) ∧ W'.cell? ⟨bx, 2, none⟩ = some (.int .i64 s.at') ∧ W'.cell? ⟨bx, 3, none⟩ = some (.int .u8 (s.turn : Nat)) ∧ Hid (Now w p q nodes l' W'))

theorem pair_mids {w w1 : World} {p q bx : Nat} {nodes r : Int} {s : Step} {u : Value} {l l' : List Mail3} {f g : FuncId} {av bv : Array Value} (hP : Pair w.heap.size p q nodes l l' r f g av bv w) (hA : Now w p q nodes l w1) (hb : StepBox w1 bx s u) :
    Calls Try.prog f av w1.drew (Mid w p q bx nodes s u l' r g bv) ∧
    Calls Try.prog g bv w1.drew (Mid w p q bx nodes s u l' r f av) := by
  obtain ⟨h1, h2, hB⟩ := hA
  have hs := hB.size
  have hd : Below w1.heap.size w1 w1.drew := (Below.refl _ _).drew
  have hBd := hB.trans (hd.mono hs)
  constructor
  · refine (hP.1 w1.drew hBd hs (h1.below hd)).mono ?_
    rintro e W ⟨he, h3, h4⟩
    have hbW : StepBox W bx s u := h4.2 _ _ _ _ hb (by decide)
    obtain ⟨_, c1, c2, c3, c4, c5, c6⟩ := hbW.cells
    have hR : RefPost W w.heap.size q nodes l := (h2.below hd).frm h4 (by decide) (by decide) (by decide)
    have hBW := hBd.trans h4.low
    exact ⟨he, c1, c2, c3, c4, c5, c6, lt_of_at hbW, Lib.hid ((hP.2 W hBW hBW.size hR).mono fun e2 W2 ⟨he2, h5, h6⟩ => ⟨he2, (StepBox.cells (h6.2 _ _ _ _ hbW (by decide))).2.1, (StepBox.cells (h6.2 _ _ _ _ hbW (by decide))).2.2.1, (StepBox.cells (h6.2 _ _ _ _ hbW (by decide))).2.2.2.1, Lib.hid ⟨h3.frm h6 (by decide) (by decide), h5, hBW.trans h6.low⟩⟩)⟩
  · refine (hP.2 w1.drew hBd hs (h2.below hd)).mono ?_
    rintro e W ⟨he, h3, h4⟩
    have hbW : StepBox W bx s u := h4.2 _ _ _ _ hb (by decide)
    obtain ⟨_, c1, c2, c3, c4, c5, c6⟩ := hbW.cells
    have hP1 : Post W w.heap.size p nodes (l.map Mail3.msg) := (h1.below hd).frm h4 (by decide) (by decide)
    have hBW := hBd.trans h4.low
    exact ⟨he, c1, c2, c3, c4, c5, c6, lt_of_at hbW, Lib.hid ((hP.1 W hBW hBW.size hP1).mono fun e2 W2 ⟨he2, h5, h6⟩ => ⟨he2, (StepBox.cells (h6.2 _ _ _ _ hbW (by decide))).2.1, (StepBox.cells (h6.2 _ _ _ _ hbW (by decide))).2.2.1, (StepBox.cells (h6.2 _ _ _ _ hbW (by decide))).2.2.2.1, Lib.hid ⟨h5, h3.frm h6 (by decide) (by decide) (by decide), hBW.trans h6.low⟩⟩)⟩

set_option maxRecDepth 100000 in
set_option maxHeartbeats 8000000 in
theorem mailScripts_law (nodes : Int) (v : Value) (l : List Step) (hl : l.length ≤ maxLen) (w : World) (hI : Steps w.heap.size w v l) :
    Calls Try.prog 3 #[.int .i64 nodes, v] w fun e W => e = .returned (.bool true) ∧ Below w.heap.size w W := by
  obtain ⟨A, cap, rfl, hlc, hcells⟩ := hI
  have CK := Lib.hid (known_calls w)
  by_cases hn : 1 ≤ nodes ∧ nodes ≤ 64
  · go_enter Try.func3, Try.ntmps3
    go_wp2_with fail
    refine CK.out.mono ?_
    rintro e w0 ⟨rfl, hB0⟩
    have hs0 := hB0.size
    have CN := Lib.hid (new_calls nodes hn.1 hn.2 w0)
    go_wp2_with fail
    refine CN.out.mono ?_
    rintro e w2 ⟨rfl, hP2, hB2⟩
    have hs2 := hB2.size
    have hn1 := hn.1
    have hn2 := hn.2
    clear CK CN
    obtain ⟨w3, hw3⟩ : ∃ w3, w2.alloc (.cells #[.int .i64 nodes, .slice none 0 0] 31) = w3 := ⟨_, rfl⟩
    have hb3 : Below w2.heap.size w2 w3 := by rw [← hw3]; exact (Below.refl _ _).alloc (Nat.le_refl _) _
    have hB3 : Below w.heap.size w w3 := (hB0.trans (hB2.mono hs0)).trans (hb3.mono (by omega))
    have hN3 : Now w w0.heap.size w2.heap.size nodes [] w3 := by
      refine ⟨(hP2.below hb3).lower hs0, ⟨by omega, .slice none 0 0, [], ?_, rfl, World.ownsRow_nil _ _ _ _, by simp⟩, hB3⟩
      rw [← hw3]; exact heap_alloc_new w2 _
    have HN3 := Lib.hid hN3
    have HW3 := Lib.hid hw3
    obtain ⟨len, hlen⟩ : ∃ len, l.length = len := ⟨_, rfl⟩
    rw [hlen] at hcells hl hlc ⊢
    have HL := Lib.hid hlen
    have HC := Lib.hid hcells
    have hlI : (len : Int) ≤ 9223372036854775807 := by simp only [maxLen] at hl; omega
    clear hw3 hb3 hB3 hN3 hP2 hB2 hB0 hlen hcells hn
    go_upto_region 9 with fail
    rw [HW3.out]
    go_wp2_with fail
    go_loopw [8] (fun kv wr => ∃ (k : Nat) (ls : List Mail3), kv = .int .i64 k ∧ k ≤ 200 ∧ k ≤ len ∧ ls.length ≤ k ∧ Hid (Good ls) ∧ Hid (Now w w0.heap.size w2.heap.size nodes ls wr)) (fun kv _ => 200 - (intOf kv).toNat)
    case atStart => exact ⟨0, [], rfl, by omega, Nat.zero_le _, Nat.le_refl _, Lib.hid (fun m hm => by cases hm), HN3⟩
    case round =>
      obtain ⟨k, ls, rfl, hk200, hklen, hlsk, HG, HNW⟩ := hrel
      have hsr := HNW.out.2.2.size
      by_cases hlt : k < len
      · by_cases hlt2 : k < 200
        · obtain ⟨s, hs⟩ : ∃ s, l[k]? = some s := ⟨_, List.getElem?_eq_getElem (by rw [HL.out]; exact hlt)⟩
          obtain ⟨b, off, rfl, hbw, hat⟩ := HC.out (by omega)
          obtain ⟨htn, hbl, u, ⟨d0, d1, d2, d3, d4, d5, d6⟩, hu⟩ := hat k s hs
          obtain ⟨Au, cu, rfl⟩ := hu.form
          obtain ⟨bl, hbl'⟩ : ∃ bl, s.mail.bs.length = bl := ⟨_, rfl⟩
          rw [hbl'] at d6 hu
          have hBr := HNW.out.2.2
          replace d0 := (hBr.cell (p := ⟨b, off + k * 7, none⟩) hbw).trans d0
          replace d1 := (hBr.cell (p := ⟨b, off + k * 7 + 1, none⟩) hbw).trans d1
          replace d2 := (hBr.cell (p := ⟨b, off + k * 7 + 2, none⟩) hbw).trans d2
          replace d3 := (hBr.cell (p := ⟨b, off + k * 7 + 3, none⟩) hbw).trans d3
          replace d4 := (hBr.cell (p := ⟨b, off + k * 7 + 4, none⟩) hbw).trans d4
          replace d5 := (hBr.cell (p := ⟨b, off + k * 7 + 5, none⟩) hbw).trans d5
          replace d6 := (hBr.cell (p := ⟨b, off + k * 7 + 6, none⟩) hbw).trans d6
          have hbr : b < wr.heap.size := by omega
          have hkI : (k : Int) < (len : Int) := by omega
          have hkI2 : (k : Int) < 200 := by omega
          obtain ⟨w1, hw1⟩ : ∃ w1, wr.alloc (.cells #[.int .i64 s.kind, .int .i64 s.i, .int .i64 s.at', .int .u8 (s.turn : Nat), .int .i64 s.mail.src, .int .i64 s.mail.dst, .slice Au bl cu] 36) = w1 := ⟨_, rfl⟩
          have hb1 : Below wr.heap.size wr w1 := by rw [← hw1]; exact (Below.refl _ _).alloc (Nat.le_refl _) _
          have hs1 : w1.heap.size = wr.heap.size + 1 := by rw [← hw1]; simp
          have hbx : StepBox w1 wr.heap.size s (.slice Au bl cu) := by rw [← hw1]; exact heap_alloc_new wr _
          have hN1 : Now w w0.heap.size w2.heap.size nodes ls w1 := ⟨HNW.out.1.below hb1, HNW.out.2.1.below hb1, hBr.trans (hb1.mono hsr)⟩
          obtain ⟨c0, c1, c2, c3, c4, c5, c6⟩ := hbx.cells
          simp only [Nat.zero_add] at c1 c2 c3 c4 c5 c6
          have HW1 := Lib.hid hw1
          have HBX := Lib.hid hbx
          have HN1 := Lib.hid hN1
          have HU := Lib.hid hu
          have HBL := Lib.hid hbl'
          have hbxl : wr.heap.size < w1.heap.size := by omega
          clear hw1 hbx hN1 hu hbl' hb1 hBr hat hs hs1
          go_upto_region 13 with fail
          rw [HW1.out]
          clear d0 d1 d2 d3 d4 d5 d6
          have hblm : bl ≤ maxLen := by rw [← HBL.out]; exact hbl
          have HU0 : Hid (Bytes w.heap.size w (.slice Au bl cu) s.mail.bs) := HU
          clear hbl
          by_cases h0 : s.kind = 0
          · rw [h0] at c0
            obtain ⟨r, l', hPair, hG', hl'⟩ := pair_send w.heap.size w0.heap.size w2.heap.size nodes ls w HG.out (by omega) s.mail (by rw [HBL.out]; exact hblm) (.slice Au bl cu) HU0.out
            obtain ⟨mA, mB⟩ := pair_mids hPair HN1.out HBX.out
            have CA := Lib.hid mA
            have CB := Lib.hid mB
            have HG' := Lib.hid hG'
            clear mA mB hPair hG' h0
            go_wp2_with fail
            go_region_law (first
              | (go_simp; go_at_call 9; ((with_reducible refine CA.out.mono ?_)); rintro e W2 ⟨rfl, m1, m2, m3, m4, m5, m6, mb, HC2⟩)
              | (go_simp; go_at_call 10; ((with_reducible refine CB.out.mono ?_)); rintro e W2 ⟨rfl, m1, m2, m3, m4, m5, m6, mb, HC2⟩)
              | (go_simp; go_at_call 9; ((with_reducible refine HC2.out.mono ?_)); rintro e W3 ⟨rfl, n1, n2, n3, HA⟩)
              | (go_simp; go_at_call 10; ((with_reducible refine HC2.out.mono ?_)); rintro e W3 ⟨rfl, n1, n2, n3, HA⟩))
            all_goals
              have CT := Lib.hid (told_calls w.heap.size w0.heap.size w2.heap.size nodes nodes l' W3 HA.out.1 HA.out.2.1 (by omega) (fun m hm => (HG'.out m hm).1) (-1) (.inl rfl))
              go_wp2_with fail
              refine CT.out.mono ?_
              rintro e W4 ⟨rfl, hB4⟩
              have HN4 : Hid (Now w w0.heap.size w2.heap.size nodes l' W4) := ⟨HA.out.1.below hB4, HA.out.2.1.below hB4, HA.out.2.2.trans (hB4.mono HA.out.2.2.size)⟩
              clear hB4 CT
              go_wp2_with fail
              go_roundw
              case rel => exact ⟨k + 1, l', by go_num, by omega, by omega, by omega, HG', HN4⟩
              case measure => simp [intOf]; omega
          have e0 : ((s.kind : Int) == 0) = false := by rw [beq_eq_false_iff_ne]; exact h0
          by_cases h2 : s.kind = 2
          · rw [h2] at c0
            obtain ⟨r, l', hPair, hG', hl'⟩ := pair_twice w.heap.size w0.heap.size w2.heap.size nodes ls w HG.out (by omega) s.i
            obtain ⟨mA, mB⟩ := pair_mids hPair HN1.out HBX.out
            have CA := Lib.hid mA
            have CB := Lib.hid mB
            have HG' := Lib.hid hG'
            clear mA mB hPair hG' h2
            go_wp2_with fail
            go_region_law (first
              | (go_simp; go_at_call 14; ((with_reducible refine CA.out.mono ?_)); rintro e W2 ⟨rfl, m1, m2, m3, m4, m5, m6, mb, HC2⟩)
              | (go_simp; go_at_call 15; ((with_reducible refine CB.out.mono ?_)); rintro e W2 ⟨rfl, m1, m2, m3, m4, m5, m6, mb, HC2⟩)
              | (go_simp; go_at_call 14; ((with_reducible refine HC2.out.mono ?_)); rintro e W3 ⟨rfl, n1, n2, n3, HA⟩)
              | (go_simp; go_at_call 15; ((with_reducible refine HC2.out.mono ?_)); rintro e W3 ⟨rfl, n1, n2, n3, HA⟩))
            all_goals
              have CT := Lib.hid (told_calls w.heap.size w0.heap.size w2.heap.size nodes nodes l' W3 HA.out.1 HA.out.2.1 (by omega) (fun m hm => (HG'.out m hm).1) (-1) (.inl rfl))
              go_wp2_with fail
              refine CT.out.mono ?_
              rintro e W4 ⟨rfl, hB4⟩
              have HN4 : Hid (Now w w0.heap.size w2.heap.size nodes l' W4) := ⟨HA.out.1.below hB4, HA.out.2.1.below hB4, HA.out.2.2.trans (hB4.mono HA.out.2.2.size)⟩
              clear hB4 CT
              go_wp2_with fail
              go_roundw
              case rel => exact ⟨k + 1, l', by go_num, by omega, by omega, by omega, HG', HN4⟩
              case measure => simp [intOf]; omega
          have e2 : ((s.kind : Int) == 2) = false := by rw [beq_eq_false_iff_ne]; exact h2
          by_cases h3 : s.kind = 3
          · rw [h3] at c0
            obtain ⟨r, l', hPair, hG', hl'⟩ := pair_spoil w.heap.size w0.heap.size w2.heap.size nodes ls w HG.out (by omega) s.i s.at' s.turn htn
            obtain ⟨mA, mB⟩ := pair_mids hPair HN1.out HBX.out
            have CA := Lib.hid mA
            have CB := Lib.hid mB
            have HG' := Lib.hid hG'
            clear mA mB hPair hG' h3
            go_wp2_with fail
            go_region_held3 (fun w' => w'.cell? ⟨wr.heap.size, 1, none⟩ = some (.int .i64 s.i) ∧ w'.cell? ⟨wr.heap.size, 2, none⟩ = some (.int .i64 s.at') ∧ w'.cell? ⟨wr.heap.size, 3, none⟩ = some (.int .u8 (s.turn : Nat))) (go_keep) (first
              | (go_at_call 16; ((with_reducible refine CA.out.mono ?_)); rintro e W2 ⟨rfl, m1, m2, m3, m4, m5, m6, mb, HC2⟩)
              | (go_at_call 17; ((with_reducible refine CB.out.mono ?_)); rintro e W2 ⟨rfl, m1, m2, m3, m4, m5, m6, mb, HC2⟩)
              | (go_at_call 16; ((with_reducible refine HC2.out.mono ?_)); rintro e W3 ⟨rfl, n1, n2, n3, HA⟩)
              | (go_at_call 17; ((with_reducible refine HC2.out.mono ?_)); rintro e W3 ⟨rfl, n1, n2, n3, HA⟩))
            all_goals
              have CT := Lib.hid (told_calls w.heap.size w0.heap.size w2.heap.size nodes nodes l' W3 HA.out.1 HA.out.2.1 (by omega) (fun m hm => (HG'.out m hm).1) (-1) (.inl rfl))
              go_wp2_with fail
              refine CT.out.mono ?_
              rintro e W4 ⟨rfl, hB4⟩
              have HN4 : Hid (Now w w0.heap.size w2.heap.size nodes l' W4) := ⟨HA.out.1.below hB4, HA.out.2.1.below hB4, HA.out.2.2.trans (hB4.mono HA.out.2.2.size)⟩
              clear hB4 CT
              go_wp2_with fail
              go_roundw
              case rel => exact ⟨k + 1, l', by go_num, by omega, by omega, by omega, HG', HN4⟩
              case measure => simp [intOf]; omega
          have e3 : ((s.kind : Int) == 3) = false := by rw [beq_eq_false_iff_ne]; exact h3
          by_cases h4 : s.kind = 4
          · rw [h4] at c0
            obtain ⟨r, l', hPair, hG', hl'⟩ := pair_lose w.heap.size w0.heap.size w2.heap.size nodes ls w HG.out (by omega) s.i
            obtain ⟨mA, mB⟩ := pair_mids hPair HN1.out HBX.out
            have CA := Lib.hid mA
            have CB := Lib.hid mB
            have HG' := Lib.hid hG'
            clear mA mB hPair hG' h4
            go_wp2_with fail
            go_region_law (first
              | (go_simp; go_at_call 18; ((with_reducible refine CA.out.mono ?_)); rintro e W2 ⟨rfl, m1, m2, m3, m4, m5, m6, mb, HC2⟩)
              | (go_simp; go_at_call 19; ((with_reducible refine CB.out.mono ?_)); rintro e W2 ⟨rfl, m1, m2, m3, m4, m5, m6, mb, HC2⟩)
              | (go_simp; go_at_call 18; ((with_reducible refine HC2.out.mono ?_)); rintro e W3 ⟨rfl, n1, n2, n3, HA⟩)
              | (go_simp; go_at_call 19; ((with_reducible refine HC2.out.mono ?_)); rintro e W3 ⟨rfl, n1, n2, n3, HA⟩))
            all_goals
              have CT := Lib.hid (told_calls w.heap.size w0.heap.size w2.heap.size nodes nodes l' W3 HA.out.1 HA.out.2.1 (by omega) (fun m hm => (HG'.out m hm).1) (-1) (.inl rfl))
              go_wp2_with fail
              refine CT.out.mono ?_
              rintro e W4 ⟨rfl, hB4⟩
              have HN4 : Hid (Now w w0.heap.size w2.heap.size nodes l' W4) := ⟨HA.out.1.below hB4, HA.out.2.1.below hB4, HA.out.2.2.trans (hB4.mono HA.out.2.2.size)⟩
              clear hB4 CT
              go_wp2_with fail
              go_roundw
              case rel => exact ⟨k + 1, l', by go_num, by omega, by omega, by omega, HG', HN4⟩
              case measure => simp [intOf]; omega
          have e4 : ((s.kind : Int) == 4) = false := by rw [beq_eq_false_iff_ne]; exact h4
          by_cases h1 : s.kind = 1
          · rw [h1] at c0
            obtain ⟨r, m, l', hTP, hTR, hG', hl'⟩ := pair_take w.heap.size w0.heap.size w2.heap.size nodes ls HG.out (by omega) s.i
            have hsz1 := HN1.out.2.2.size
            have CP := Lib.hid (hTP w1 hsz1 HN1.out.1)
            have CR := Lib.hid hTR
            have HG' := Lib.hid hG'
            clear hTP hTR hG' h1
            go_wp2_with fail
            refine CP.out.mono ?_
            rintro e W2 ⟨A2, a2, rfl, hpers, hP2', hF2⟩
            have hbx2 : StepBox W2 wr.heap.size s (.slice Au bl cu) := hF2.2 _ _ _ _ HBX.out (by decide)
            have hlt2' := lt_of_at hbx2
            have hszW2 : w.heap.size ≤ W2.heap.size := Nat.le_trans hsz1 hF2.size
            have hR2 : RefPost W2 w.heap.size w2.heap.size nodes ls := HN1.out.2.1.frm hF2 (by decide) (by decide) (by decide)
            obtain ⟨W3, hW3⟩ : ∃ W3, W2.alloc (.cells #[.int .i64 m.src, .int .i64 m.dst, .slice A2 m.bs.length a2] 34) = W3 := ⟨_, rfl⟩
            have hb23 : Below W2.heap.size W2 W3 := by rw [← hW3]; exact (Below.refl _ _).alloc (Nat.le_refl _) _
            have hs23 : W3.heap.size = W2.heap.size + 1 := by rw [← hW3]; simp
            have hx3 : Three W3 W2.heap.size (.int .i64 m.src) (.int .i64 m.dst) (.slice A2 m.bs.length a2) 34 := by rw [← hW3]; exact heap_alloc_new W2 _
            have hbx3 : StepBox W3 wr.heap.size s (.slice Au bl cu) := (hb23.block _ hlt2').trans hbx2
            obtain ⟨_, g1, _⟩ := hbx3.cells
            simp only [Nat.zero_add] at g1
            have hlt3' := lt_of_at hbx3
            have CR2 := Lib.hid (CR.out W3 (by omega) (hR2.below hb23))
            have HP3 := Lib.hid (hP2'.below hb23)
            have HF3 := Lib.hid ((HN1.out.2.2.trans hF2.low).trans (hb23.mono hszW2))
            have HFR := Lib.hid (Frm.of_below (S := isRefP) hb23 hszW2)
            have HW3 := Lib.hid hW3
            have HX3 := Lib.hid hx3
            have HPE := Lib.hid hpers
            clear hpers hP2' hF2 hbx2 hR2 hW3 hb23 hx3 hbx3 CP CR
            go_upto_region 20 with fail
            rw [HW3.out]
            go_wp2_with fail
            refine CR2.out.mono ?_
            rintro e W4 ⟨A4, a4, rfl, hub, hR4, hF4⟩
            have hs34 := hF4.size
            obtain ⟨W5, hW5⟩ : ∃ W5, W4.alloc (.cells #[.int .i64 m.src, .int .i64 m.dst, .slice A4 m.bs.length a4] 34) = W5 := ⟨_, rfl⟩
            have hb45 : Below W4.heap.size W4 W5 := by rw [← hW5]; exact (Below.refl _ _).alloc (Nat.le_refl _) _
            have hs45 : W5.heap.size = W4.heap.size + 1 := by rw [← hW5]; simp
            have hx5 : Three W5 W2.heap.size (.int .i64 m.src) (.int .i64 m.dst) (.slice A2 m.bs.length a2) 34 := three_below (hF4.2 _ _ _ _ HX3.out (by decide)) hb45
            have hy5 : Three W5 W4.heap.size (.int .i64 m.src) (.int .i64 m.dst) (.slice A4 m.bs.length a4) 34 := by rw [← hW5]; exact heap_alloc_new W4 _
            have hN5 : Now w w0.heap.size w2.heap.size nodes l' W5 := ⟨(HP3.out.frm hF4 (by decide) (by decide)).below hb45, hR4.below hb45, (HF3.out.trans hF4.low).trans (hb45.mono (by omega))⟩
            have hua5 := (HPE.out W4 (HFR.out.trans hF4)).on hb45
            have hub5 := hub.on hb45
            have hcs := refSame_calls m m _ _ W5 ⟨_, rfl, hua5⟩ ⟨_, rfl, hub5⟩
            rw [sameB_self] at hcs
            have CS := Lib.hid hcs
            obtain ⟨t0, t1, t2, _⟩ := hx5.cells
            obtain ⟨y0, y1, y2, _⟩ := hy5.cells
            have HN5 := Lib.hid hN5
            have HW5 := Lib.hid hW5
            have hl25 : W2.heap.size < W5.heap.size := by omega
            have hl45 : W4.heap.size < W5.heap.size := by omega
            clear hub hR4 hF4 hW5 hb45 hx5 hy5 hN5 hua5 hub5 hcs CR2 HX3 HPE HFR HF3 HP3 g1
            go_upto_region 21 with fail
            rw [HW5.out]
            go_wp2_with fail
            refine CS.out.mono ?_
            rintro e W6 ⟨rfl, hB6⟩
            have HA : Hid (Now w w0.heap.size w2.heap.size nodes l' W6) := ⟨HN5.out.1.below hB6, HN5.out.2.1.below hB6, HN5.out.2.2.trans (hB6.mono HN5.out.2.2.size)⟩
            have CT := Lib.hid (told_calls w.heap.size w0.heap.size w2.heap.size nodes nodes l' W6 HA.out.1 HA.out.2.1 (by omega) (fun m hm => (HG'.out m hm).1) (-1) (.inl rfl))
            clear CS hB6 t0 t1 t2 y0 y1 y2
            go_wp2_with fail
            refine CT.out.mono ?_
            rintro e W8 ⟨rfl, hB8⟩
            have HN8 : Hid (Now w w0.heap.size w2.heap.size nodes l' W8) := ⟨HA.out.1.below hB8, HA.out.2.1.below hB8, HA.out.2.2.trans (hB8.mono HA.out.2.2.size)⟩
            clear hB8 CT
            go_wp2_with fail
            go_roundw
            case rel => exact ⟨k + 1, l', by go_num, by omega, by omega, by omega, HG', HN8⟩
            case measure => simp [intOf]; omega
          have e1 : ((s.kind : Int) == 1) = false := by rw [beq_eq_false_iff_ne]; exact h1
          obtain ⟨t, ht5, hwt⟩ := place_mod s.i 5 (by decide) (by decide)
          have hwt' : wrap64 ((IntKind.u64.wrap s.i).tmod 5) = (t : Int) := hwt
          have htI : (t : Int) < 5 := by omega
          have CT0 := Lib.hid (told_calls w.heap.size w0.heap.size w2.heap.size nodes nodes ls w1 HN1.out.1 HN1.out.2.1 (by omega) (fun m hm => (HG.out m hm).1) (1 + (t : Int)) (.inr (by omega)))
          clear hwt h0 h1 h2 h3 h4
          go_wp2_with fail
          refine CT0.out.mono ?_
          rintro e W6 ⟨rfl, hB6⟩
          have HA : Hid (Now w w0.heap.size w2.heap.size nodes ls W6) := ⟨HN1.out.1.below hB6, HN1.out.2.1.below hB6, HN1.out.2.2.trans (hB6.mono HN1.out.2.2.size)⟩
          have CT := Lib.hid (told_calls w.heap.size w0.heap.size w2.heap.size nodes nodes ls W6 HA.out.1 HA.out.2.1 (by omega) (fun m hm => (HG.out m hm).1) (-1) (.inl rfl))
          clear hB6 CT0
          go_wp2_with fail
          refine CT.out.mono ?_
          rintro e W8 ⟨rfl, hB8⟩
          have HN8 : Hid (Now w w0.heap.size w2.heap.size nodes ls W8) := ⟨HA.out.1.below hB8, HA.out.2.1.below hB8, HA.out.2.2.trans (hB8.mono HA.out.2.2.size)⟩
          clear hB8 CT
          go_wp2_with fail
          go_roundw
          case rel => exact ⟨k + 1, ls, by go_num, by omega, by omega, by omega, HG, HN8⟩
          case measure => simp [intOf]; omega
        · obtain rfl : k = 200 := by omega
          have hkI : ((200 : Nat) : Int) < (len : Int) := by omega
          have hB := Lib.hid HNW.out.2.2
          go_wp2_with fail
          go_ret
          exact ⟨rfl, hB.out⟩
      · obtain rfl : k = len := by omega
        have hB := Lib.hid HNW.out.2.2
        go_wp2_with fail
        go_ret
        exact ⟨rfl, hB.out⟩
  · have CN := Lib.hid (fun w0 => new_refused nodes hn w0)
    rcases (show nodes < 1 ∨ (1 ≤ nodes ∧ 64 < nodes) by omega) with h | ⟨h, h'⟩
    all_goals
      clear hn
      go_enter Try.func3, Try.ntmps3
      go_wp2_with fail
      refine CK.out.mono ?_
      rintro e w0 ⟨rfl, hB0⟩
      have HB0 := Lib.hid hB0
      clear hB0
      go_wp2_with fail
      refine (CN.out w0).mono ?_
      rintro e W ⟨rfl, rfl⟩
      go_wp2_with fail
      go_ret
      exact ⟨rfl, HB0.out⟩

end Go.Proofs.Ytjcgkjjomiapoaa.Mail
