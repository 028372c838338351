/-
  Contracts of SameRecord, SameGraph and Same of the document's entries. Contract of Same of the document's entries.
-/
import Derived.Test.YtffehnojcajhiaaEgE
import Derived.Test.YtffehnojcajhiaaEgH
import Derived.BigQuiet
import Derived.Deep.QuietTactic
namespace Go.Proofs.Ytffehnojcajhiaa.Wire.Entry
open Go Go.RowKit Go.Proofs.Ytffehnojcajhiaa.Law

theorem below2 (w : World) (o p : Obj) : Below w.heap.size w ((w.alloc o).alloc p) := ((Below.refl _ _).alloc (Nat.le_refl _) o).alloc (by simp) p

set_option maxRecDepth 100000 in
set_option maxHeartbeats 4000000 in
theorem sameRecord_calls (r t : Rec) (g : Bool) (hg : g = true ↔ r = t) (w : World) : Calls Try.prog 28 #[recV r, recV t] w (RetB w g) := by
  have HB : Hid (∀ o p, Below w.heap.size w ((w.alloc o).alloc p)) := Lib.hid (below2 w)
  obtain ⟨p, q, a, key, val⟩ := r
  obtain ⟨p', q', a', key', val'⟩ := t
  have HG := Lib.hid hg
  clear hg
  by_cases h1 : p = p'
  · subst h1
    by_cases h2 : q = q'
    · subst h2
      by_cases h3 : a = a'
      · subst h3
        by_cases h4 : key = key'
        · subst h4
          by_cases h5 : val = val'
          · subst h5
            obtain rfl : g = true := HG.out.2 rfl
            go_enter Try.func28, Try.ntmps28
            go_wp2_with fail
            go_ret
            exact ⟨rfl, HB.out _ _⟩
          · obtain rfl : g = false := b_false HG.out fun h => h5 (by injection h)
            have hb : ((val : Int) == (val' : Int)) = false := beq_eq_false_iff_ne.2 (by omega)
            go_enter Try.func28, Try.ntmps28
            go_wp2_with fail
            go_ret
            exact ⟨by simp, HB.out _ _⟩
        · obtain rfl : g = false := b_false HG.out fun h => h4 (by injection h)
          have hb : (key.toList == key'.toList) = false := (Lib.bytes_beq_false_iff _ _).2 h4
          go_enter Try.func28, Try.ntmps28
          go_wp2_with fail
          go_ret
          exact ⟨rfl, HB.out _ _⟩
      · obtain rfl : g = false := b_false HG.out fun h => h3 (by injection h)
        have hb : (a == a') = false := beq_eq_false_iff_ne.2 h3
        go_enter Try.func28, Try.ntmps28
        go_wp2_with fail
        go_ret
        exact ⟨rfl, HB.out _ _⟩
    · obtain rfl : g = false := b_false HG.out fun h => h2 (by injection h)
      have hb : (q == q') = false := beq_eq_false_iff_ne.2 h2
      go_enter Try.func28, Try.ntmps28
      go_wp2_with fail
      go_ret
      exact ⟨rfl, HB.out _ _⟩
  · obtain rfl : g = false := b_false HG.out fun h => h1 (by injection h)
    have hb : (p == p') = false := beq_eq_false_iff_ne.2 h1
    go_enter Try.func28, Try.ntmps28
    go_wp2_with fail
    go_ret
    exact ⟨rfl, HB.out _ _⟩

theorem opr_ext {x y : Opr} (h1 : x.kind = y.kind) (h2 : x.arg = y.arg) (h3 : x.num = y.num) (h4 : x.rounds = y.rounds) (h5 : x.test = y.test) (h6 : x.lim = y.lim) (h7 : x.ins = y.ins) : x = y := by
  cases x; cases y
  simp only at h1 h2 h3 h4 h5 h6 h7
  subst h1 h2 h3 h4 h5 h6 h7
  rfl

set_option maxRecDepth 100000 in
set_option maxHeartbeats 8000000 in
theorem sameGraph_calls (l m : List Opr) (hl : l.length * 72 ≤ 140737488351232) (hil : ∀ x ∈ l, x.ins.length * 8 ≤ 140737488351232) (u v : Value) (g : Bool) (hg : g = true ↔ l = m) (w : World) (hI : OldO w.heap.size w u l) (hJ : OldO w.heap.size w v m) :
    Calls Try.prog 29 #[.agg #[u], .agg #[v]] w (RetB w g) := by
  obtain ⟨A, cap, rfl, _⟩ := hI.form
  obtain ⟨B, cap2, rfl, _⟩ := hJ.form
  obtain ⟨len, hlen⟩ : ∃ len, l.length = len := ⟨_, rfl⟩
  obtain ⟨len2, hlen2⟩ : ∃ len, m.length = len := ⟨_, rfl⟩
  rw [hlen] at hI hl ⊢
  rw [hlen2] at hJ ⊢
  have HI := Lib.hid hI
  have HJ := Lib.hid hJ
  have HL := Lib.hid hlen
  have HL2 := Lib.hid hlen2
  have HG := Lib.hid hg
  have HIL := Lib.hid hil
  have HB0 := Lib.hid (below2 w (.cells #[.slice A len cap] 27) (.cells #[.slice B len2 cap2] 27))
  clear hI hJ hlen hlen2 hg hil
  by_cases hll : len = len2
  · subst hll
    obtain ⟨b, hb⟩ : ∃ b, w.heap.size = b := ⟨_, rfl⟩
    have hbx := ((Below.refl _ _).alloc (Nat.le_refl _) (.cells #[.slice B len cap2] 27) |>.block w.heap.size (by simp)).trans (heap_alloc_new w (.cells #[.slice A len cap] 27))
    have hby := heap_alloc_new (w.alloc (.cells #[.slice A len cap] 27)) (.cells #[.slice B len cap2] 27)
    have hsz : ((w.alloc (.cells #[.slice A len cap] 27)).alloc (.cells #[.slice B len cap2] 27)).heap.size = b + 2 := by simp [hb]
    rw [World.size_alloc, hb] at hby
    rw [hb] at hbx
    have HBX := Lib.hid hbx
    have HBY := Lib.hid hby
    have HSZ := Lib.hid hsz
    have HBB := Lib.hid hb
    clear hbx hby hsz
    go_enter Try.func29, Try.ntmps29
    go_wp2_with fail
    have hbx := HBX.out
    have hby := HBY.out
    have hsz := HSZ.out
    have hB0 := HB0.out
    clear HBX HBY HSZ HB0
    generalize ((w.alloc (.cells #[.slice A len cap] 27)).alloc (.cells #[.slice B len cap2] 27)) = w0 at hbx hby hsz hB0 ⊢
    have HBX := Lib.hid hbx
    have HBY := Lib.hid hby
    have HSZ := Lib.hid hsz
    have HB0 := Lib.hid hB0
    clear hbx hby hsz hB0 hb
    go_loopw [5] (fun i wr => ∃ k : Nat, i = .int .i64 k ∧ k ≤ len ∧ (∀ j, j < k → l[j]? = m[j]?) ∧ Below (b + 2) w0 wr) (fun i _ => len - (intOf i).toNat)
    case atStart => exact ⟨0, rfl, Nat.zero_le _, fun _ h => absurd h (Nat.not_lt_zero _), Below.refl _ _⟩
    case round =>
      obtain ⟨k, rfl, hk, hsame, hB⟩ := hrel
      have HSM := Lib.hid hsame
      have hs : b + 2 ≤ wr.heap.size := by have := hB.size; have := HSZ.out; omega
      obtain ⟨ga, _⟩ := box1 ((hB.block b (by omega)).trans HBX.out)
      obtain ⟨gb, _⟩ := box1 ((hB.block (b + 1) (by omega)).trans HBY.out)
      have hBw : Below w.heap.size w wr := HB0.out.trans (hB.mono (by have := HBB.out; omega))
      have HB := Lib.hid hB
      have HBW := Lib.hid hBw
      clear hsame hB hBw
      by_cases hlt : k < len
      · obtain ⟨x, hx⟩ : ∃ x, l[k]? = some x := ⟨_, List.getElem?_eq_getElem (by rw [HL.out]; exact hlt)⟩
        obtain ⟨y, hy⟩ : ∃ y, m[k]? = some y := ⟨_, List.getElem?_eq_getElem (by rw [HL2.out]; exact hlt)⟩
        obtain ⟨ib, io, rfl, hib, hcells⟩ := (OpsAt.low HBW.out HI.out).at (by omega)
        obtain ⟨jb, jo, rfl, hjb, hcells2⟩ := (OpsAt.low HBW.out HJ.out).at (by omega)
        obtain ⟨ux, ⟨c0, c1, c2, c3, c4, c5, c6⟩, hix⟩ := hcells k x hx
        obtain ⟨uy, ⟨e0, e1, e2, e3, e4, e5, e6⟩, hiy⟩ := hcells2 k y hy
        obtain ⟨Ax, cx, rfl, _⟩ := hix.form
        obtain ⟨Ay, cy, rfl, _⟩ := hiy.form
        obtain ⟨nx, hnx⟩ : ∃ n, x.ins.length = n := ⟨_, rfl⟩
        obtain ⟨ny, hny⟩ : ∃ n, y.ins.length = n := ⟨_, rfl⟩
        have hxb : nx * 8 ≤ 140737488351232 := by rw [← hnx]; exact HIL.out x (List.mem_of_getElem? hx)
        rw [hnx] at c1 hix
        rw [hny] at e1 hiy
        have hb1w : b + 1 < wr.heap.size := by omega
        have hb0w : b < wr.heap.size := by omega
        have hibw : ib < wr.heap.size := by have := HBB.out; omega
        have hjbw : jb < wr.heap.size := by have := HBB.out; omega
        have hneq : x ≠ y → g = false := fun h => b_false HG.out fun e => h (by rw [e, hy] at hx; exact (Option.some.inj hx).symm)
        have HNE := Lib.hid hneq
        have HX := Lib.hid hx
        have HY := Lib.hid hy
        have HNX := Lib.hid hnx
        have HNY := Lib.hid hny
        have HIX := Lib.hid hix
        have HIY := Lib.hid hiy
        have HLT := Lib.hid hlt
        have HBF : Hid (∀ o p, Below w.heap.size w ((wr.alloc o).alloc p)) := Lib.hid fun o p => (HBW.out.alloc HBW.out.size o).alloc (Nat.le_trans HBW.out.size (by simp)) p
        clear hcells hcells2 hix hiy hx hy hnx hny hneq
        by_cases hf0 : x.kind = y.kind
        · have HF0 := Lib.hid hf0
          rw [← hf0] at e0
          clear hf0
          by_cases hf1 : x.arg = y.arg
          · have HF1 := Lib.hid hf1
            rw [← hf1] at e2
            clear hf1
            by_cases hf2 : x.num = y.num
            · have HF2 := Lib.hid hf2
              rw [← hf2] at e3
              clear hf2
              by_cases hf3 : x.rounds = y.rounds
              · have HF3 := Lib.hid hf3
                rw [← hf3] at e4
                clear hf3
                by_cases hf4 : x.test = y.test
                · have HF4 := Lib.hid hf4
                  rw [← hf4] at e5
                  clear hf4
                  by_cases hf5 : x.lim = y.lim
                  · have HF5 := Lib.hid hf5
                    rw [← hf5] at e6
                    clear hf5
                    by_cases hnn : nx = ny
                    · subst hnn
                      have h2x := ((Below.refl _ _).alloc (Nat.le_refl _) (.cells #[.int .i64 x.kind, .slice Ay nx cy, .int .i64 x.arg, .int .u32 (x.num : Nat), .int .i64 x.rounds, .int .i64 x.test, .int .u32 (x.lim : Nat)] 47) |>.block wr.heap.size (by simp)).trans (heap_alloc_new wr (.cells #[.int .i64 x.kind, .slice Ax nx cx, .int .i64 x.arg, .int .u32 (x.num : Nat), .int .i64 x.rounds, .int .i64 x.test, .int .u32 (x.lim : Nat)] 47))
                      have h2y := heap_alloc_new (wr.alloc (.cells #[.int .i64 x.kind, .slice Ax nx cx, .int .i64 x.arg, .int .u32 (x.num : Nat), .int .i64 x.rounds, .int .i64 x.test, .int .u32 (x.lim : Nat)] 47)) (.cells #[.int .i64 x.kind, .slice Ay nx cy, .int .i64 x.arg, .int .u32 (x.num : Nat), .int .i64 x.rounds, .int .i64 x.test, .int .u32 (x.lim : Nat)] 47)
                      rw [World.size_alloc] at h2y
                      have H2X := Lib.hid h2x
                      have H2Y := Lib.hid h2y
                      have hix2 := HIX.out.keep (W' := ((wr.alloc (.cells #[.int .i64 x.kind, .slice Ax nx cx, .int .i64 x.arg, .int .u32 (x.num : Nat), .int .i64 x.rounds, .int .i64 x.test, .int .u32 (x.lim : Nat)] 47)).alloc (.cells #[.int .i64 x.kind, .slice Ay nx cy, .int .i64 x.arg, .int .u32 (x.num : Nat), .int .i64 x.rounds, .int .i64 x.test, .int .u32 (x.lim : Nat)] 47))) (T := fun _ => True) (fun k hk => (Below.heap_alloc _ _ k (by simp; have := HBB.out; omega)).trans (Below.heap_alloc wr _ k (by have := HBB.out; omega))) (fun _ _ => trivial)
                      have hiy2 := HIY.out.keep (W' := ((wr.alloc (.cells #[.int .i64 x.kind, .slice Ax nx cx, .int .i64 x.arg, .int .u32 (x.num : Nat), .int .i64 x.rounds, .int .i64 x.test, .int .u32 (x.lim : Nat)] 47)).alloc (.cells #[.int .i64 x.kind, .slice Ay nx cy, .int .i64 x.arg, .int .u32 (x.num : Nat), .int .i64 x.rounds, .int .i64 x.test, .int .u32 (x.lim : Nat)] 47))) (T := fun _ => True) (fun k hk => (Below.heap_alloc _ _ k (by simp; have := HBB.out; omega)).trans (Below.heap_alloc wr _ k (by have := HBB.out; omega))) (fun _ _ => trivial)
                      have HIX2 := Lib.hid hix2
                      have HIY2 := Lib.hid hiy2
                      have hB2 := (HB.out.alloc (by omega) (.cells #[.int .i64 x.kind, .slice Ax nx cx, .int .i64 x.arg, .int .u32 (x.num : Nat), .int .i64 x.rounds, .int .i64 x.test, .int .u32 (x.lim : Nat)] 47)).alloc (show b + 2 ≤ (wr.alloc (.cells #[.int .i64 x.kind, .slice Ax nx cx, .int .i64 x.arg, .int .u32 (x.num : Nat), .int .i64 x.rounds, .int .i64 x.test, .int .u32 (x.lim : Nat)] 47)).heap.size by simp; omega) (.cells #[.int .i64 x.kind, .slice Ay nx cy, .int .i64 x.arg, .int .u32 (x.num : Nat), .int .i64 x.rounds, .int .i64 x.test, .int .u32 (x.lim : Nat)] 47)
                      have HB2 := Lib.hid hB2
                      have HBF2 := Lib.hid (HBF.out (.cells #[.int .i64 x.kind, .slice Ax nx cx, .int .i64 x.arg, .int .u32 (x.num : Nat), .int .i64 x.rounds, .int .i64 x.test, .int .u32 (x.lim : Nat)] 47) (.cells #[.int .i64 x.kind, .slice Ay nx cy, .int .i64 x.arg, .int .u32 (x.num : Nat), .int .i64 x.rounds, .int .i64 x.test, .int .u32 (x.lim : Nat)] 47))
                      clear h2x h2y hix2 hiy2 hB2 HBF
                      go_wp2_with fail
                      have h2x := H2X.out
                      have h2y := H2Y.out
                      have hix2 := HIX2.out
                      have hiy2 := HIY2.out
                      have hB2 := HB2.out
                      have hBF2 := HBF2.out
                      clear H2X H2Y HIX2 HIY2 HB2 HBF2 c0 c1 c2 c3 c4 c5 c6 e0 e1 e2 e3 e4 e5 e6
                      generalize ((wr.alloc (.cells #[.int .i64 x.kind, .slice Ax nx cx, .int .i64 x.arg, .int .u32 (x.num : Nat), .int .i64 x.rounds, .int .i64 x.test, .int .u32 (x.lim : Nat)] 47)).alloc (.cells #[.int .i64 x.kind, .slice Ay nx cy, .int .i64 x.arg, .int .u32 (x.num : Nat), .int .i64 x.rounds, .int .i64 x.test, .int .u32 (x.lim : Nat)] 47)) = w2 at h2x h2y hix2 hiy2 hB2 hBF2 ⊢
                      have H2X := Lib.hid h2x
                      have H2Y := Lib.hid h2y
                      have HIX2 := Lib.hid hix2
                      have HIY2 := Lib.hid hiy2
                      have HB2 := Lib.hid hB2
                      have HBF2 := Lib.hid hBF2
                      clear h2x h2y hix2 hiy2 hB2 hBF2
                      obtain ⟨q, hq⟩ : ∃ q, wr.heap.size = q := ⟨_, rfl⟩
                      simp only [hq] at H2X H2Y ⊢
                      obtain ⟨wo, rfl⟩ : ∃ wo, wo = wr := ⟨_, rfl⟩
                      clear hq
                      go_loopw [8] (fun i wx => ∃ t : Nat, i = .int .i64 t ∧ t ≤ nx ∧ (∀ j, j < t → x.ins[j]? = y.ins[j]?) ∧ ∃ d, wx = w2.drewN d) (fun i _ => nx - (intOf i).toNat)
                      case atStart => exact ⟨0, rfl, Nat.zero_le _, fun _ h => absurd h (Nat.not_lt_zero _), 0, rfl⟩
                      case round =>
                        obtain ⟨t, rfl, ht, hin, d, hdr⟩ := hrel
                        have hhp : wr.heap = w2.heap := by rw [hdr]; rfl
                        have hx2 := H2X.out
                        have hy2 := H2Y.out
                        rw [← hhp] at hx2 hy2
                        clear hhp
                        have hix3 : IntsAt (fun _ => True) wr (.slice Ax nx cx) x.ins := by rw [hdr]; exact HIX2.out
                        have hiy3 : IntsAt (fun _ => True) wr (.slice Ay nx cy) y.ins := by rw [hdr]; exact HIY2.out
                        obtain ⟨⟨r0, r1, r2, r3, r4, r5, r6⟩, _⟩ := box7 hx2
                        obtain ⟨⟨s0, s1, s2, s3, s4, s5, s6⟩, _⟩ := box7 hy2
                        have HIN := Lib.hid hin
                        have HDR := Lib.hid hdr
                        clear hx2 hy2 hin hdr r0 r2 r3 r4 r5 r6 s0 s2 s3 s4 s5 s6
                        by_cases htl : t < nx
                        · obtain ⟨xi, hxi⟩ : ∃ z, x.ins[t]? = some z := ⟨_, List.getElem?_eq_getElem (by rw [HNX.out]; exact htl)⟩
                          obtain ⟨yi, hyi⟩ : ∃ z, y.ins[t]? = some z := ⟨_, List.getElem?_eq_getElem (by rw [HNY.out]; exact htl)⟩
                          obtain ⟨xb, xo, rfl, _, hxc⟩ := hix3.at (by omega)
                          obtain ⟨yb, yo, rfl, _, hyc⟩ := hiy3.at (by omega)
                          have x0 := hxc t xi hxi
                          have y0 := hyc t yi hyi
                          have HXI := Lib.hid hxi
                          have HYI := Lib.hid hyi
                          have HTL := Lib.hid htl
                          have htI : (t : Int) < (nx : Int) := by omega
                          clear hxc hyc hix3 hiy3 hxi hyi
                          by_cases hxy : xi = yi
                          · subst hxy
                            go_wp2_with fail
                            go_quiet (fail)
                            go_wp2_with fail
                            go_roundw
                            case rel =>
                              refine ⟨t + 1, by go_num, by have := HTL.out; omega, fun j hj => ?_, ?_⟩
                              · by_cases hjt : j = t
                                · subst hjt; rw [HXI.out, HYI.out]
                                · exact HIN.out j (by omega)
                              · have h := HDR.out
                                exact ⟨_, by rw [h, World.drewN_drewN]⟩
                            case measure => have := HTL.out; simp [intOf]; omega
                          · have hb1 : (xi == yi) = false := beq_eq_false_iff_ne.2 hxy
                            have hb2 : (xi != yi) = true := bne_iff_ne.2 hxy
                            obtain rfl := HNE.out (fun e => hxy (by have h1 := HXI.out; rw [e, HYI.out] at h1; exact (Option.some.inj h1).symm))
                            go_wp2_with fail
                            go_quiet (fail)
                            go_wp2_with fail
                            go_ret
                            refine ⟨rfl, ?_⟩
                            have h := HDR.out
                            rw [h]
                            exact lowN (lowN HBF2.out _) _
                        · obtain rfl : t = nx := by omega
                          have hins : x.ins = y.ins := by
                            apply List.ext_getElem?
                            intro j
                            by_cases hj : j < t
                            · exact HIN.out j hj
                            · rw [List.getElem?_eq_none (by rw [HNX.out]; omega), List.getElem?_eq_none (by rw [HNY.out]; omega)]
                          have hxy : x = y := opr_ext HF0.out HF1.out HF2.out HF3.out HF4.out HF5.out hins
                          have HXY := Lib.hid hxy
                          clear hins hxy hix3 hiy3
                          go_wp2_with fail
                          go_roundw
                          case rel =>
                            refine ⟨k + 1, by go_num, by have := HLT.out; omega, fun j hj => ?_, ?_⟩
                            · by_cases hjk : j = k
                              · subst hjk; rw [HX.out, HY.out, HXY.out]
                              · exact HSM.out j (by omega)
                            · have h := HDR.out
                              rw [h]
                              exact lowN HB2.out _
                          case measure => have := HLT.out; simp [intOf]; omega
                    · have hb1 : ((nx : Int) == (ny : Int)) = false := by rw [beq_eq_false_iff_ne]; omega
                      have hb2 : ((nx : Int) != (ny : Int)) = true := by rw [bne_iff_ne]; omega
                      obtain rfl := HNE.out (fun e => hnn (by rw [← HNX.out, ← HNY.out, e]))
                      go_wp2_with fail
                      go_ret
                      exact ⟨rfl, HBF.out _ _⟩
                  · obtain rfl := HNE.out (fun e => hf5 (by rw [e]))
                    have hb1 : (((x.lim : Nat) : Int) == ((y.lim : Nat) : Int)) = false := by rw [beq_eq_false_iff_ne]; omega
                    have hb2 : (((x.lim : Nat) : Int) != ((y.lim : Nat) : Int)) = true := by rw [bne_iff_ne]; omega
                    go_wp2_with fail
                    go_ret
                    exact ⟨rfl, HBF.out _ _⟩
                · obtain rfl := HNE.out (fun e => hf4 (by rw [e]))
                  have hb1 : (x.test == y.test) = false := by rw [beq_eq_false_iff_ne]; omega
                  have hb2 : (x.test != y.test) = true := by rw [bne_iff_ne]; omega
                  go_wp2_with fail
                  go_ret
                  exact ⟨rfl, HBF.out _ _⟩
              · obtain rfl := HNE.out (fun e => hf3 (by rw [e]))
                have hb1 : (x.rounds == y.rounds) = false := by rw [beq_eq_false_iff_ne]; omega
                have hb2 : (x.rounds != y.rounds) = true := by rw [bne_iff_ne]; omega
                go_wp2_with fail
                go_ret
                exact ⟨rfl, HBF.out _ _⟩
            · obtain rfl := HNE.out (fun e => hf2 (by rw [e]))
              have hb1 : (((x.num : Nat) : Int) == ((y.num : Nat) : Int)) = false := by rw [beq_eq_false_iff_ne]; omega
              have hb2 : (((x.num : Nat) : Int) != ((y.num : Nat) : Int)) = true := by rw [bne_iff_ne]; omega
              go_wp2_with fail
              go_ret
              exact ⟨rfl, HBF.out _ _⟩
          · obtain rfl := HNE.out (fun e => hf1 (by rw [e]))
            have hb1 : (x.arg == y.arg) = false := by rw [beq_eq_false_iff_ne]; omega
            have hb2 : (x.arg != y.arg) = true := by rw [bne_iff_ne]; omega
            go_wp2_with fail
            go_ret
            exact ⟨rfl, HBF.out _ _⟩
        · obtain rfl := HNE.out (fun e => hf0 (by rw [e]))
          have hb1 : (x.kind == y.kind) = false := by rw [beq_eq_false_iff_ne]; omega
          have hb2 : (x.kind != y.kind) = true := by rw [bne_iff_ne]; omega
          go_wp2_with fail
          go_ret
          exact ⟨rfl, HBF.out _ _⟩
      · obtain rfl : k = len := by omega
        obtain rfl : g = true := HG.out.2 (by
          apply List.ext_getElem?
          intro j
          by_cases hj : j < k
          · exact HSM.out j hj
          · rw [List.getElem?_eq_none (by rw [HL.out]; omega), List.getElem?_eq_none (by rw [HL2.out]; omega)])
        go_wp2_with fail
        go_ret
        exact ⟨rfl, HBW.out⟩
  · obtain rfl : g = false := b_false HG.out fun h => hll (by rw [← HL.out, ← HL2.out, h])
    have hI1 : ((len : Int) == (len2 : Int)) = false := by rw [beq_eq_false_iff_ne]; omega
    have hI2 : ((len : Int) != (len2 : Int)) = true := by rw [bne_iff_ne]; omega
    go_enter Try.func29, Try.ntmps29
    go_wp2_with fail
    go_ret
    exact ⟨rfl, HB0.out⟩

end Go.Proofs.Ytffehnojcajhiaa.Wire.Entry

namespace Go.Proofs.Ytffehnojcajhiaa.Wire.Entry
open Go Go.RowKit Go.Proofs.Ytffehnojcajhiaa.Law

theorem rec_ext {a b : Ent} (h1 : a.kind = b.kind) (h2 : a.n = b.n) (h3 : a.r = b.r) (h4 : a.ops = b.ops) : a = b := by
  cases a; cases b
  simp only at h1 h2 h3 h4
  subst h1 h2 h3 h4
  rfl

set_option maxRecDepth 100000 in
set_option maxHeartbeats 4000000 in
theorem same_calls (a b : Ent) (ha : a.wf) (u v : Value) (g : Bool) (hg : g = true ↔ a = b) (w : World) (hI : OldO w.heap.size w u a.ops) (hJ : OldO w.heap.size w v b.ops) : Calls Try.prog 15 #[entV a u, entV b v] w (RetB w g) := by
  obtain ⟨A, cap, rfl, _⟩ := hI.form
  obtain ⟨B, cap2, rfl, _⟩ := hJ.form
  obtain ⟨gr, hgr⟩ := exB (a.r = b.r)
  obtain ⟨gg, hgg⟩ := exB (a.ops = b.ops)
  have HB := Lib.hid (below2 w)
  have CR : Hid (∀ W, Calls Try.prog 28 #[recV a.r, recV b.r] W (RetB W gr)) := Lib.hid fun W => sameRecord_calls a.r b.r gr hgr W
  have CG : Hid (∀ W, Below w.heap.size w W → Calls Try.prog 29 #[.agg #[.slice A a.ops.length cap], .agg #[.slice B b.ops.length cap2]] W (RetB W gg)) := Lib.hid fun W hW =>
    sameGraph_calls a.ops b.ops ha.2.2.2.1 (fun x hx => (ha.2.2.1 x hx).2.2.2.2.2.2.2) _ _ gg hgg W (OpsAt.on hW hI) (OpsAt.on hW hJ)
  obtain ⟨la, hla⟩ : ∃ n, a.ops.length = n := ⟨_, rfl⟩
  obtain ⟨lb, hlb⟩ : ∃ n, b.ops.length = n := ⟨_, rfl⟩
  have hx0 := EBox.new w a (.slice A a.ops.length cap)
  have hx1 := hx0.low ((Below.refl _ _).alloc (Nat.le_refl _) (.cells #[.int .i64 b.kind, .int .i64 b.r.p, .int .i64 b.r.q, .int .i64 b.r.a, .string b.r.key, .int .u32 (b.r.val : Nat), .slice B b.ops.length cap2, .int .i64 b.n] 29))
  have hy1 := EBox.new (w.alloc (.cells #[.int .i64 a.kind, .int .i64 a.r.p, .int .i64 a.r.q, .int .i64 a.r.a, .string a.r.key, .int .u32 (a.r.val : Nat), .slice A a.ops.length cap, .int .i64 a.n] 29)) b (.slice B b.ops.length cap2)
  rw [World.size_alloc] at hy1
  rw [hla, hlb] at CG hx1 hy1
  rw [hla, hlb]
  have HX1 := Lib.hid hx1
  have HY1 := Lib.hid hy1
  have HG := Lib.hid hg
  have HGR := Lib.hid hgr
  have HGG := Lib.hid hgg
  clear hI hJ hgr hgg hla hlb hx0 hx1 hy1 hg ha
  by_cases h1 : a.kind = b.kind
  · have b1 : ((a.kind : Int) == b.kind) = true := beq_iff_eq.2 h1
    by_cases h2 : a.n = b.n
    · have b2 : ((a.n : Int) == b.n) = true := beq_iff_eq.2 h2
      have hge : g = (gr && gg) := by
        cases gr with
        | false => exact b_false HG.out fun h => by have := HGR.out.2 (by rw [h]); cases this
        | true =>
          cases gg with
          | false => exact b_false HG.out fun h => by have := HGG.out.2 (by rw [h]); cases this
          | true => exact HG.out.2 (rec_ext h1 h2 (HGR.out.1 rfl) (HGG.out.1 rfl))
      subst hge
      clear h1 h2 HG HGR HGG
      go_enter Try.func15, Try.ntmps15
      go_upto_region 1 with fail
      have hx1 := HX1.out
      have hy1 := HY1.out
      have hB := HB.out (.cells #[.int .i64 a.kind, .int .i64 a.r.p, .int .i64 a.r.q, .int .i64 a.r.a, .string a.r.key, .int .u32 (a.r.val : Nat), .slice A la cap, .int .i64 a.n] 29) (.cells #[.int .i64 b.kind, .int .i64 b.r.p, .int .i64 b.r.q, .int .i64 b.r.a, .string b.r.key, .int .u32 (b.r.val : Nat), .slice B lb cap2, .int .i64 b.n] 29)
      clear HX1 HY1 HB
      generalize ((w.alloc (.cells #[.int .i64 a.kind, .int .i64 a.r.p, .int .i64 a.r.q, .int .i64 a.r.a, .string a.r.key, .int .u32 (a.r.val : Nat), .slice A la cap, .int .i64 a.n] 29)).alloc (.cells #[.int .i64 b.kind, .int .i64 b.r.p, .int .i64 b.r.q, .int .i64 b.r.a, .string b.r.key, .int .u32 (b.r.val : Nat), .slice B lb cap2, .int .i64 b.n] 29)) = w1 at hx1 hy1 hB ⊢
      obtain ⟨a0, a1, a2, a3, a4, a5, a6, a7⟩ := hx1.cells
      obtain ⟨d0, d1, d2, d3, d4, d5, d6, d7⟩ := hy1.cells
      have HB := Lib.hid hB
      have HX1 := Lib.hid hx1
      have HY1 := Lib.hid hy1
      clear hx1 hy1 hB
      go_wp2_with fail
      refine (CR.out _).mono ?_
      rintro e w2 ⟨rfl, hB2⟩
      have HB2 := Lib.hid (HB.out.trans (hB2.mono HB.out.size))
      obtain ⟨_, _, _, _, _, _, f6, _⟩ := (HX1.out.low hB2).cells
      obtain ⟨_, _, _, _, _, _, g6, _⟩ := (HY1.out.low hB2).cells
      clear hB2 HB a0 a1 a2 a3 a4 a5 a6 a7 d0 d1 d2 d3 d4 d5 d6 d7 CR HX1 HY1
      cases gr with
      | false =>
        go_wp2_with fail
        go_ret
        exact ⟨rfl, HB2.out⟩
      | true =>
        go_wp2_with fail
        refine (CG.out _ HB2.out).mono ?_
        rintro e w3 ⟨rfl, hB3⟩
        have HB3 := Lib.hid (HB2.out.trans (hB3.mono HB2.out.size))
        clear hB3 HB2 CG f6 g6
        go_wp2_with fail
        go_ret
        exact ⟨rfl, HB3.out⟩
    · obtain rfl : g = false := b_false HG.out fun h => h2 (by rw [h])
      have b2 : ((a.n : Int) == b.n) = false := beq_eq_false_iff_ne.2 h2
      go_enter Try.func15, Try.ntmps15
      go_wp2_with fail
      go_ret
      exact ⟨rfl, HB.out _ _⟩
  · obtain rfl : g = false := b_false HG.out fun h => h1 (by rw [h])
    have b1 : ((a.kind : Int) == b.kind) = false := beq_eq_false_iff_ne.2 h1
    go_enter Try.func15, Try.ntmps15
    go_wp2_with fail
    go_ret
    exact ⟨rfl, HB.out _ _⟩

end Go.Proofs.Ytffehnojcajhiaa.Wire.Entry
