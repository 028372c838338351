/-
  The contract of the tally's count: the first error, the items and the bytes so far.
-/
import Derived.Test.YtffehnojcajhiaaWireAppendItems
import Derived.Deep.RegionWith
import Derived.Deep.RegionHeld3
import Derived.StillTailTactics
import Derived.IntWalk
import Derived.Test.YtffehnojcajhiaaQuietTail
import Derived.Lib.QuietBelow
import Derived.BigQuiet
import Derived.Deep.DeepCutAuto
namespace Go.Proofs.Ytffehnojcajhiaa.Wire
open Go Go.RowKit Go.Sort Go.Proofs.Ytffehnojcajhiaa.Law

/-- A block of two ints of a type. -/
def Two (W : World) (t : TypeId) (tb c b : Nat) : Prop := W.heap[tb]? = some (Obj.cells #[.int .i64 (c : Nat), .int .i64 (b : Nat)] t (0, 0))
theorem Two.cells {W : World} {t : TypeId} {tb c b : Nat} (h : Two W t tb c b) : W.cell? ⟨tb, 0, none⟩ = some (.int .i64 (c : Nat)) ∧ W.cell? ⟨tb, 1, none⟩ = some (.int .i64 (b : Nat)) ∧ W.frozen? ⟨tb, 0, none⟩ = false ∧ W.frozen? ⟨tb, 1, none⟩ = false := by
  unfold Two at h
  refine ⟨?_, ?_, ?_, ?_⟩ <;> simp [World.cell?, World.frozen?, h]

/-- What the tally's count leaves. -/
def Counted (w : World) (tb T : Nat) (R : Nat × Nat) (e : Ending) (W : World) : Prop :=
  e = .returned (.int .i64 (R.2 : Nat)) ∧ w.grownBy W (some tb) ∧ ∃ b, Two W 67 tb R.1 b ∧ (R.2 = 0 → b = T)

theorem grown_refl (w : World) (row : Option Nat) : w.grownBy w row := ⟨rfl, rfl, rfl, Nat.le_refl _, fun _ _ _ => rfl⟩
theorem grown_of_below {w W : World} (h : Below w.heap.size w W) (row : Option Nat) : w.grownBy W row := ⟨h.os, h.tape, h.output, h.size, fun k hk _ => h.block k hk⟩
theorem grown_low {w W : World} {tb n : Nat} (h : w.grownBy W (some tb)) (hn : n ≤ w.heap.size) (ht : n ≤ tb) : Below n w W :=
  (Below.refl n w).grown h hn (fun k hk => by cases hk; exact ht)
theorem Items.grown {w W : World} {tb n : Nat} {v : Value} {l : List Item} (hI : Old n w v l) (h : w.grownBy W (some tb)) (hn : n ≤ w.heap.size) (ht : n ≤ tb) : Old n W v l := hI.low (grown_low h hn ht)
theorem Boxed4.grown {w W : World} {tb b : Nat} {x : Item} {u : Value} (hB : Boxed4 w b x u) (h : w.grownBy W (some tb)) (hb : b ≠ tb) : Boxed4 W b x u :=
  (h.block b (lt_of_some hB) (by simpa using hb)).trans hB
theorem Two.below {w W : World} {t : TypeId} {tb c b : Nat} (h : Two w t tb c b) (hB : Below w.heap.size w W) : Two W t tb c b := (hB.block tb (lt_of_some h)).trans h

theorem Two.set0 {W : World} {t : TypeId} {tb c b : Nat} (h : Two W t tb c b) (c' : Nat) {v : Value} (hv : v = .int .i64 (c' : Nat)) : Two (W.setCell ⟨tb, 0, none⟩ v) t tb c' b := by
  subst hv
  unfold Two at h ⊢
  simp [World.setCell, Array.getElem?_modify, h]
theorem Two.set1 {W : World} {t : TypeId} {tb c b : Nat} (h : Two W t tb c b) (b' : Nat) {v : Value} (hv : v = .int .i64 (b' : Nat)) : Two (W.setCell ⟨tb, 1, none⟩ v) t tb c b' := by
  subst hv
  unfold Two at h ⊢
  simp [World.setCell, Array.getElem?_modify, h]
theorem Two.alloc {W : World} {t : TypeId} {tb c b : Nat} (h : Two W t tb c b) (o : Obj) : Two (W.alloc o) t tb c b := h.below ((Below.refl _ _).alloc (Nat.le_refl _) o)
theorem grown_set {w W : World} {tb i : Nat} (h : w.grownBy W (some tb)) (v : Value) : w.grownBy (W.setCell ⟨tb, i, none⟩ v) (some tb) :=
  h.trans ⟨rfl, rfl, rfl, by simp [World.setCell], fun k _ hk => Below.heap_setCell _ _ _ _ (by simpa using hk)⟩
theorem grown_alloc {w W : World} {tb : Nat} (h : w.grownBy W (some tb)) (o : Obj) : w.grownBy (W.alloc o) (some tb) := h.trans (World.grownBy_alloc W o _)

theorem bytes_sized (x : Item) (h : x.sized) : x.bytes.length ≤ x.nodes * 140737488355400 := by
  have h1 := bytes_le x
  have h2 := strs_sized x h
  omega

/-- What stands while an item's bytes are added. -/
def Stand (w : World) (tb c b bx : Nat) (x : Item) (u : Value) (W : World) : Prop := Two W 67 tb c b ∧ Boxed4 W bx x u ∧ w.grownBy W (some tb)
theorem Stand.below {w W W' : World} {tb c b bx : Nat} {x : Item} {u : Value} (h : Stand w tb c b bx x u W) (hB : Below W.heap.size W W') : Stand w tb c b bx x u W' :=
  ⟨h.1.below hB, (hB.block bx (lt_of_some h.2.1)).trans h.2.1, h.2.2.trans (grown_of_below hB _)⟩
theorem Stand.drew {w W : World} {tb c b bx : Nat} {x : Item} {u : Value} (h : Stand w tb c b bx x u W) : Stand w tb c b bx x u W.drew := h.below (Below.refl _ _).drew

set_option maxRecDepth 100000 in
set_option maxHeartbeats 4000000 in
theorem count_calls : ∀ (m : Nat) (l : List Item), nodesL l < m → sizedL l → l.length ≤ 9223372036854775807 → ∀ (sv : Value) (d c b tb base : Nat) (w : World), Old base w sv l → base ≤ tb → d ≤ 9 → c ≤ 4096 → b ≤ c * 140737488355400 → Two w 67 tb c b →
    Calls Try.prog 30 #[.pointer (some ⟨tb, 0, none⟩), sv, .int .i64 (d : Nat)] w (Counted w tb (b + (bytesL l).length) (chkL d c l)) := by
  intro m
  induction m with
  | zero => exact fun _ h => absurd h (Nat.not_lt_zero _)
  | succ m ih =>
    intro l hm hsz hlong sv d c b tb base w hI hbt hd hc hb hT
    obtain ⟨A, cap, rfl, hcap⟩ := hI.form
    obtain ⟨len, hlen⟩ : ∃ len, l.length = len := ⟨_, rfl⟩
    obtain ⟨R, hR⟩ : ∃ R, chkL d c l = R := ⟨_, rfl⟩
    obtain ⟨T, hTT⟩ : ∃ T, b + (bytesL l).length = T := ⟨_, rfl⟩
    rw [hR, hTT]
    rw [hlen] at hI hlong hcap ⊢
    have hbw : base ≤ w.heap.size := by have := lt_of_some hT; omega
    have h0 : ∃ c0 b0 : Nat, c0 ≤ 4096 ∧ b0 ≤ c0 * 140737488355400 ∧ chkL d c0 l = R ∧ b0 + (bytesL l).length = T ∧ Two w 67 tb c0 b0 := ⟨c, b, hc, hb, hR, hTT, hT⟩
    have H0 := Lib.hid h0
    have HI := Lib.hid hI
    have HL := Lib.hid hlen
    have HM := Lib.hid hm
    have HS := Lib.hid hsz
    clear h0 hI hlen hm hsz hR hTT hT hb hc
    go_enter Try.func30, Try.ntmps30
    go_wp2_with fail
    go_loopw [12] (fun i wr => ∃ k c b : Nat, i = .int .i64 k ∧ k ≤ len ∧ c ≤ 4096 ∧ b ≤ c * 140737488355400 ∧ chkL d c (l.drop k) = R ∧ b + (bytesL (l.drop k)).length = T ∧ Two wr 67 tb c b ∧ w.grownBy wr (some tb)) (fun i _ => len - (intOf i).toNat)
    case atStart =>
      obtain ⟨c0, b0, h1, h2, h3, h4, h5⟩ := H0.out
      exact ⟨0, c0, b0, rfl, Nat.zero_le _, h1, h2, h3, h4, h5, grown_refl _ _⟩
    case round =>
      obtain ⟨k, c, b, rfl, hk, hc, hb, h3, h4, h5, h6⟩ := hrel
      have H3 := Lib.hid h3
      have H4 := Lib.hid h4
      have H5 := Lib.hid h5
      have hs := Nat.le_trans hbw h6.size
      have htb := lt_of_some h5
      clear h3 h4
      by_cases hlt : k < len
      · obtain ⟨x, hx⟩ : ∃ x, l[k]? = some x := ⟨_, List.getElem?_eq_getElem (by rw [HL.out]; exact hlt)⟩
        have hI6 := HI.out.grown h6 hbw hbt
        obtain ⟨bk, off, rfl, hbk, hcells⟩ := hI6.at (by omega)
        obtain ⟨u, ⟨c0, c1, c2, c3⟩, hkid⟩ := hcells k x hx
        obtain ⟨A', cap', rfl, hcap'⟩ := hkid.form
        obtain ⟨hk1, hk2, hn1, hn2, hs1, hl1⟩ := sized_of (sizedL_get hx HS.out)
        obtain ⟨t0, t1, f0, f1⟩ := h5.cells
        have hd3 : chkL d c (l.drop k) = if (chkI d c x).2 ≠ 0 then chkI d c x else chkL d (chkI d c x).1 (l.drop (k + 1)) := by rw [drop_get hx, chkL_cons]
        have hd4 : (bytesL (l.drop k)).length = x.bytes.length + (bytesL (l.drop (k + 1))).length := by rw [drop_get hx, bytesL, List.length_append]
        have hlb : x.bytes.length = 1 + (num x.no).length + x.s.size + (bytesL x.kids).length := by rw [bytes_eq]; simp [sb_length]; omega
        have hci := chkI_eq d c x
        have hno := no_lt (sizedL_get hx HS.out)
        have hnl := numF_le 9 x.no
        have cF : ∀ W, Calls Try.prog 47 #[.agg #[.int .i64 x.kind, .int .i64 x.n, .string x.s, .slice A' x.kids.length cap']] W fun e W' => e = .returned (.bool x.form) ∧ Below W.heap.size W W' := fun W => inform x.kind x.n x.s A' x.kids.length cap' W
        have cN : ∀ W, Calls Try.prog 49 #[.agg #[.int .i64 x.kind, .int .i64 x.n, .string x.s, .slice A' x.kids.length cap']] W fun e W' => e = .returned (.int .u64 (x.no : Nat)) ∧ Below W.heap.size W W' := fun W => number_calls x.kind x.n hn1 hn2 x.s hs1 A' x.kids.length cap' hl1 W
        have cD := fun W => digits_calls x.no hno W
        have hbox := Boxed4.new (wr.setCell ⟨tb, 0, none⟩ (.int .i64 ((c : Int) + 1))) x (.slice A' x.kids.length cap')
        have hT1 := ((h5.set0 (c + 1) (v := .int .i64 ((c : Int) + 1)) rfl).alloc (.cells #[.int .i64 x.kind, .int .i64 x.n, .string x.s, .slice A' x.kids.length cap'] 71))
        have hG1 := grown_alloc (grown_set (i := 0) h6 (.int .i64 ((c : Int) + 1))) (.cells #[.int .i64 x.kind, .int .i64 x.n, .string x.s, .slice A' x.kids.length cap'] 71)
        have hsz1 : (wr.setCell ⟨tb, 0, none⟩ (.int .i64 ((c : Int) + 1))).heap.size = wr.heap.size := by simp [World.setCell]
        rw [hsz1] at hbox
        obtain ⟨kl, hkl⟩ : ∃ kl, x.kids.length = kl := ⟨_, rfl⟩
        obtain ⟨nn, hnn⟩ : ∃ nn, x.no = nn := ⟨_, rfl⟩
        obtain ⟨dg, hdg⟩ : ∃ dg, (num nn).length = dg := ⟨_, rfl⟩
        rw [hnn] at cN cD hlb hnl
        change (num nn).length ≤ 9 + 1 at hnl
        rw [hdg] at cD hlb hnl
        rw [hkl] at hkid hcap' hl1 cN cF c3 hbox hT1 hG1
        have HKL := Lib.hid hkl
        have HX := Lib.hid hx
        have HK := Lib.hid hkid
        have CF := Lib.hid cF
        have CN := Lib.hid cN
        have CD := Lib.hid cD
        have HBOX := Lib.hid hbox
        have HT1 := Lib.hid hT1
        have HG1 := Lib.hid hG1
        have HD3 := Lib.hid hd3
        have HD4 := Lib.hid hd4
        have HLB := Lib.hid hlb
        have HCI := Lib.hid hci
        clear hI6 hcells hx hkid h5 hd3 hd4 hlb hci cF cN cD hbox hT1 hG1 hkl hnn hdg hsz1
        have hne : ¬ bk = tb := by omega
        have hne2 : ¬ tb = wr.heap.size := by omega
        go_wp2_with fail
        refine (CF.out _).mono ?_
        rintro e w2 ⟨rfl, B2⟩
        have hT2 := HT1.out.below B2
        have hG2 := HG1.out.trans (grown_of_below B2 _)
        have hbox2 : Boxed4 w2 wr.heap.size x (.slice A' kl cap') := (B2.block wr.heap.size (lt_of_some HBOX.out)).trans HBOX.out
        obtain ⟨t0', t1', f0', f1'⟩ := hT2.cells
        obtain ⟨d0, d1, d2, d3⟩ := hbox2.cells
        have HT2 := Lib.hid hT2
        have HG2 := Lib.hid hG2
        have HBOX2 := Lib.hid hbox2
        clear HT1 HG1 HBOX B2 hT2 hG2 hbox2 t0 t1 f0 f1 c0 c1 c2 c3
        cases hform : x.form with
        | false =>
          have HFORM := Lib.hid hform
          clear hform
          go_wp2_with fail
          go_ret
          have hRR : R = (c + 1, 3) := by
            rw [← H3.out, HD3.out, HCI.out, HFORM.out]; simp
          subst hRR
          exact ⟨rfl, HG2.out, b, HT2.out, fun h => by cases h⟩
        | true =>
          have HFORM := Lib.hid hform
          clear hform
          by_cases hbig : 4096 < c + 1
          · have hbI : 4096 < ((c + 1 : Nat) : Int) := by omega
            go_wp2_with fail
            go_ret
            have hRR : R = (c + 1, 2) := by
                have h1 : chkI d c x = (c + 1, 2) := by rw [HCI.out, HFORM.out, if_neg Bool.noConfusion, if_pos (Or.inl hbig)]
                rw [← H3.out, HD3.out, h1]; rfl
            rw [hRR]
            exact ⟨rfl, HG2.out, b, HT2.out, fun h => by cases h⟩
          · have hbI : ((c + 1 : Nat) : Int) ≤ 4096 := by omega
            by_cases hdd : 8 < d
            · have hdI : 8 < (d : Int) := by omega
              go_wp2_with fail
              go_ret
              have hRR : R = (c + 1, 2) := by
                have h1 : chkI d c x = (c + 1, 2) := by rw [HCI.out, HFORM.out, if_neg Bool.noConfusion, if_pos (Or.inr hdd)]
                rw [← H3.out, HD3.out, h1]; rfl
              rw [hRR]
              exact ⟨rfl, HG2.out, b, HT2.out, fun h => by cases h⟩
            · have hdI : (d : Int) ≤ 8 := by omega
              go_wp2_with fail
              have hw1 : IntKind.i64.wrap (1 + (dg : Int)) = 1 + (dg : Int) := IntWalk.i64_in _ (by omega)
              have hw2 : IntKind.i64.wrap (1 + (dg : Int) + (x.s.size : Int)) = 1 + (dg : Int) + (x.s.size : Int) := IntWalk.i64_in _ (by omega)
              have hw3 : IntKind.i64.wrap ((b : Int) + (1 + (dg : Int) + (x.s.size : Int))) = (b : Int) + (1 + (dg : Int) + (x.s.size : Int)) := IntWalk.i64_in _ (by omega)
              have hS : Stand w tb (c + 1) b wr.heap.size x (.slice A' kl cap') w2 := ⟨HT2.out, HBOX2.out, HG2.out⟩
              have cN2 := fun d os => Calls.regrown_of (d := d) (os := os) (CN.out (grow (redrawn w2 d) os))
              have cD2 := fun d os => Calls.regrown_of (d := d) (os := os) ((CD.out (grow (redrawn w2 d) os)).mono fun e W' ⟨he, hw⟩ => ⟨he, hw ▸ Below.refl _ _⟩)
              have q1 := fun d os => cell_regrown t1' d os
              have q2 := fun d os => cell_regrown d0 d os
              have q3 := fun d os => cell_regrown d1 d os
              have q4 := fun d os => cell_regrown d2 d os
              have q5 := fun d os => cell_regrown d3 d os
              have HSS := Lib.hid hS
              have CN2 := Lib.hid cN2
              have CD2 := Lib.hid cD2
              clear hS cN2 cD2 CN CD HT2 HG2 HBOX2
              refine wp_region_quiet_tail (C := fun w' => ∃ p : Regrown, w' = grow (redrawn w2 p.d) p.os) 15 (by kernel_rfl) (by kernel_rfl) ⟨⟨w2.drawn + 1, #[]⟩, by rw [grow_empty]; rfl⟩ ?_
              simp only [List.take_succ_cons, List.take_zero, List.drop_succ_cons, List.drop_zero]
              repeat (go_big_quiet_step ((first | exact CN2.out _ _ | exact CD2.out _ _)))
              refine wpQuiet_nil ?_
              intro wq hq
              obtain ⟨⟨dq, osq⟩, rfl⟩ := hq
              have hSq := HSS.out.below (below_regrown w2 dq osq)
              generalize grow (redrawn w2 dq) osq = wq at hSq ⊢
              have hT3 := hSq.1
              obtain ⟨s0, s1, g0, g1⟩ := hT3.cells
              obtain ⟨e0, e1, e2, e3⟩ := hSq.2.1.cells
              have hbv : ((b : Int) + (1 + (dg : Int) + (x.s.size : Int))) = ((b + (1 + dg + x.s.size) : Nat) : Int) := by omega
              have hT4 := hT3.set1 (b + (1 + dg + x.s.size)) (v := .int .i64 ((b : Int) + (1 + (dg : Int) + (x.s.size : Int)))) (by rw [hbv])
              have hG4 := grown_set (i := 1) hSq.2.2 (.int .i64 ((b : Int) + (1 + (dg : Int) + (x.s.size : Int))))
              have hsz4 : (wq.setCell ⟨tb, 1, none⟩ (.int .i64 ((b : Int) + (1 + (dg : Int) + (x.s.size : Int))))).heap.size = wq.heap.size := by simp [World.setCell]
              obtain ⟨⟨c', e'⟩, hR'⟩ : ∃ R', chkL (d + 1) (c + 1) x.kids = R' := ⟨_, rfl⟩
              have hI4 : Old base (wq.setCell ⟨tb, 1, none⟩ (.int .i64 ((b : Int) + (1 + (dg : Int) + (x.s.size : Int))))) (.slice A' kl cap') x.kids :=
                Items.keep (W := wr) (fun k hk => (hG4.block k (by omega) (by simp; omega)).trans (h6.block k (by omega) (by simp; omega)).symm) (fun _ h => h) HK.out
              have cR := ih x.kids (by have := nodesL_kids HX.out; have := HM.out; omega) (sized_kids (sizedL_get HX.out HS.out)) (by rw [HKL.out]; exact hl1) (.slice A' kl cap') (d + 1) (c + 1) (b + (1 + dg + x.s.size)) tb base _ hI4 hbt (by omega) (by omega) (by omega) hT4
              rw [hR', show ((d + 1 : Nat) : Int) = (d : Int) + 1 by omega] at cR
              have hci' : chkI d c x = (c', e') := by
                rw [HCI.out, HFORM.out, if_neg (by decide), if_neg (by omega)]; exact hR'
              have CR := Lib.hid cR
              have HG4 := Lib.hid hG4
              have HCI' := Lib.hid hci'
              clear hT3 hSq HSS hT4 hG4 hbv cR q1 q2 q3 q4 q5 t0' t1' f0' f1' d0 d1 d2 d3 CN2 CD2 hw1 hw2 hw3 hI4 hR' hci'
              go_wp2_with fail
              refine CR.out.mono ?_
              rintro e w5 ⟨rfl, G5, b5, T5, h5⟩
              have hG5 := HG4.out.trans G5
              have HT5 := Lib.hid T5
              have HG5 := Lib.hid hG5
              have HB5 := Lib.hid h5
              clear G5 T5 hG5 h5 HG4 CR s0 s1 g0 g1 e0 e1 e2 e3 hsz4
              by_cases he : e' = 0
              · subst he
                have hok := chkI_ok d c x (by rw [HCI'.out])
                have hck : c' = c + x.nodes := by have := hok.1; rw [HCI'.out] at this; exact this
                have hb5 : b5 = b + x.bytes.length := by have h1 := HB5.out rfl; have h2 := HLB.out; omega
                have hbs := bytes_sized x (sizedL_get HX.out HS.out)
                have hok3 := hok.2.2
                have h3' : chkL d c' (l.drop (k + 1)) = R := by rw [← H3.out, HD3.out, HCI'.out]; simp
                have h4' : b5 + (bytesL (l.drop (k + 1))).length = T := by rw [← H4.out, HD4.out, hb5]; omega
                have hb6 : b5 ≤ c' * 140737488355400 := by rw [hb5, hck, Nat.add_mul]; omega
                have hT5 := HT5.out
                have hG5 := HG5.out
                have hc6 : c' ≤ 4096 := by omega
                have HALL := Lib.hid (And.intro hc6 (And.intro hb6 (And.intro h3' (And.intro h4' (And.intro hT5 hG5)))))
                clear hok hck hb5 hbs hok3 h3' h4' hb6 hT5 hG5 hc6
                go_wp2_with fail
                go_roundw
                case rel =>
                  obtain ⟨a1, a2, a3, a4, a5, a6⟩ := HALL.out
                  exact ⟨k + 1, c', b5, by go_num, by omega, a1, a2, a3, a4, a5, a6⟩
                case measure => simp [intOf]; omega
              · have heI : ¬ (e' : Int) = 0 := by omega
                have hRR : R = (c', e') := by rw [← H3.out, HD3.out, HCI'.out]; simp [he]
                have HRR := Lib.hid hRR
                clear hRR
                go_wp2_with fail
                go_ret
                rw [HRR.out]
                exact ⟨rfl, HG5.out, b5, HT5.out, fun h => absurd h he⟩
      · obtain rfl : k = len := by omega
        have hRR : R = (c, 0) := by rw [← H3.out, List.drop_of_length_le (by rw [HL.out]; exact Nat.le_refl _), chkL_nil]
        have hTb : b = T := by have := H4.out; rw [List.drop_of_length_le (by rw [HL.out]; exact Nat.le_refl _)] at this; simpa [bytesL] using this
        have HRR := Lib.hid hRR
        have HTB := Lib.hid hTb
        have HG6 := Lib.hid h6
        clear hRR hTb h5 h6
        go_wp2_with fail
        go_ret
        rw [HRR.out]
        exact ⟨rfl, HG6.out, b, H5.out, fun _ => HTB.out⟩
end Go.Proofs.Ytffehnojcajhiaa.Wire
