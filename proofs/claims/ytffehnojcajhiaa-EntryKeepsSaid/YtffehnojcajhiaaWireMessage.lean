/-
  The program's own reading of a message.
-/
import Derived.Test.YtffehnojcajhiaaWireLies
import Derived.Test.YtffehnojcajhiaaWireKnown
import Derived.Test.YtffehnojcajhiaaWireBackMath
import Derived.Deep.RegionWith
import Derived.WalkMore
namespace Go.Proofs.Ytffehnojcajhiaa.Wire
open Go Go.RowKit Go.Proofs.Ytffehnojcajhiaa.Law

/-- What message answers. -/
def MsgRead (w : World) (rb : Nat) (R : List Item × Nat) (e : Ending) (W : World) : Prop :=
  ∃ u, e = .returned (.tuple #[u, .int .i64 (R.2 : Nat)]) ∧ w.grownBy W (some rb) ∧ Items (fun b => w.heap.size ≤ b ∧ b < W.heap.size) W u R.1

/-- What lies ahead of an item of the message. -/
def MS (w : World) (rb n₀ : Nat) (RT : Except Nat (List Item)) (ps : List (List Item × Int)) (acc : List Item) (n : Int) (c : Nat) (W : World) : Prop :=
  ∃ bs, unw ps acc n c bs = RT ∧ bs.length ≤ 65536 ∧ Num ps acc n c ∧ Lies w rb n₀ ps acc n c bs W

theorem Lies.rest_cell {w W : World} {rb n₀ : Nat} {ps : List (List Item × Int)} {acc : List Item} {n : Int} {c : Nat} {bs : List Nat} (h : Lies w rb n₀ ps acc n c bs W) :
    ∃ A cap, W.cell? ⟨rb, 0, none⟩ = some (.slice A bs.length cap) ∧ Rdr W rb (.slice A bs.length cap) ∧ Bytes n₀ W (.slice A bs.length cap) bs := by
  obtain ⟨B, f, lo, h1, h2, _⟩ := h
  obtain ⟨A, cap, rfl⟩ := h2.form
  exact ⟨A, cap, h1.cells.1, h1, h2⟩
theorem Lies.part_cells {w W : World} {rb n₀ : Nat} {ps : List (List Item × Int)} {acc : List Item} {n : Int} {c : Nat} {bs : List Nat} (h : Lies w rb n₀ ps acc n c bs W) (hd : ps.length ≤ 8) :
    W.cell? ⟨w.heap.size, ps.length * 2 + 1, none⟩ = some (.int .i64 n) ∧ (∃ A cap, W.cell? ⟨w.heap.size, ps.length * 2, none⟩ = some (.slice A acc.length cap) ∧ Items (fun b => w.heap.size ≤ b ∧ b < W.heap.size) W (.slice A acc.length cap) acc) ∧
      (ps.length < 8 → ∀ j, j < 2 → W.frozen? ⟨w.heap.size, (ps.length + 1) * 2 + j, none⟩ = false ∧ ∃ v, W.cell? ⟨w.heap.size, (ps.length + 1) * 2 + j, none⟩ = some v) := by
  obtain ⟨B, f, lo, h1, h2, h3, h4, h5, h6, h7, h8⟩ := h
  have hl := h5.le
  refine ⟨?_, ?_, fun hlt j hj => ⟨(h3 _ (by omega)).2, _, (h3 _ (by omega)).1⟩⟩
  · rw [← h8]; exact (h3 _ (by omega)).1
  · obtain ⟨A, cap, hv, _⟩ := h7.form
    refine ⟨A, cap, by rw [← hv]; exact (h3 _ (by omega)).1, ?_⟩
    rw [← hv]
    exact h7.items.mono (fun b hb => ⟨by omega, hb.2⟩)
theorem Num.more {ps : List (List Item × Int)} {acc : List Item} {n : Int} {c : Nat} {bs : List Nat} (h : Num ps acc n c) (hM : More ps n bs) (hc : c < 4096) (x : Item) : Num ps (acc ++ [x]) (n - 1) (c + 1) := by
  obtain ⟨h1, h2, h3, h4, h5, h6⟩ := h
  refine ⟨by omega, h2, by simp; omega, by omega, fun hp => by rw [h5 hp]; simp; omega, fun hp => by have := hM.2 hp; omega⟩
theorem Lies.grown {w W : World} {rb n₀ : Nat} {ps : List (List Item × Int)} {acc : List Item} {n : Int} {c : Nat} {bs : List Nat} (h : Lies w rb n₀ ps acc n c bs W) : w.grownBy W (some rb) := by
  obtain ⟨B, f, lo, h1, h2, h3, h4, _⟩ := h; exact h4

/-- The parts as they are made. -/
abbrev zero18 : Array Value := #[.slice none 0 0, .int .i64 0, .slice none 0 0, .int .i64 0, .slice none 0 0, .int .i64 0, .slice none 0 0, .int .i64 0, .slice none 0 0, .int .i64 0, .slice none 0 0, .int .i64 0, .slice none 0 0, .int .i64 0, .slice none 0 0, .int .i64 0, .slice none 0 0, .int .i64 0]
theorem zero_parts : (Try.prog.info? 107).map (fun i => i.zero) = some (some (.agg zero18)) := by kernel_rfl

theorem zero18_at : ∀ i : Fin 18, (zero18)[i.val]? = some (zero18.getD i.val undef) := by intro i; simp [Array.getD]
theorem parts_new (w : World) : PB (w.alloc (.cells zero18 107)) w.heap.size (fun i => zero18.getD i undef) := fun i hi => by
  have h := heap_alloc_new w (.cells zero18 107)
  refine ⟨?_, ?_⟩
  · unfold World.cell?
    rw [h]
    exact zero18_at ⟨i, hi⟩
  · unfold World.frozen?
    rw [h]
    simp

theorem lies_new {w : World} {rb n₀ : Nat} {B : Value} {bs : List Nat} (hR : Rdr w rb B) (hI : Bytes n₀ w B bs) (hn : n₀ ≤ rb) : Lies w rb n₀ [] [] 0 0 bs (w.alloc (.cells zero18 107)) := by
  have hrb := lt_of_some hR
  have hB := (Below.refl w.heap.size w).alloc (Nat.le_refl _) (.cells zero18 107)
  refine ⟨B, fun i => zero18.getD i undef, w.heap.size + 1, (hB.block rb hrb).trans hR, hI.below (hB.mono (by omega)), parts_new w, World.grownBy_alloc _ _ _, Nat.le_refl _, by simp, ?_, rfl⟩
  have : (fun i => zero18.getD i undef) (([] : List (List Item × Int)).length * 2) = .slice none 0 0 := rfl
  rw [this]
  exact Grow.nil _ _ _ (Nat.le_refl _)

set_option maxRecDepth 100000 in
set_option maxHeartbeats 8000000 in
theorem message_calls (rb n₀ : Nat) (B : Value) (bs : List Nat) (hlen0 : bs.length ≤ 65536) (w : World) (hR : Rdr w rb B) (hI : Bytes n₀ w B bs) (hn : n₀ ≤ rb) :
    Calls Try.prog 41 #[.pointer (some ⟨rb, 0, none⟩)] w (MsgRead w rb (decOf (unw [] [] 0 0 bs))) := by
  obtain ⟨RT, hRT⟩ : ∃ RT, unw [] [] 0 0 bs = RT := ⟨_, rfl⟩
  rw [hRT]
  have hrb : rb < w.heap.size := lt_of_some hR
  obtain ⟨pb, hpb⟩ : ∃ pb, w.heap.size = pb := ⟨_, rfl⟩
  have hL0 := lies_new hR hI hn
  have HRT := Lib.hid hRT
  have HL0 := Lib.hid hL0
  have HPB := Lib.hid hpb
  clear hRT hR hI
  rw [hpb] at hrb
  go_enter Try.func41, Try.ntmps41
  go_wp2_with fail
  go_step3
  go_wp2_with (refine wpList_alloc_ran (o := ⟨some 4, _, _, _, _, _⟩) rfl _ rfl zero_parts rfl ?_)
  clear hpb hL0
  go_step3
  go_wp2_with fail
  go_loopw [5, 6] (fun d m wr => ∃ ps acc n c, d = .int .i64 ((ps : List (List Item × Int)).length : Nat) ∧ m = .int .i64 ((c : Nat) : Int) ∧ MS w rb n₀ RT ps acc n c wr) (fun d m _ => 3 * (4096 - (intOf m).toNat) + (intOf d).toNat)
  case atStart => exact ⟨[], [], 0, 0, rfl, rfl, bs, HRT.out, hlen0, ⟨by omega, by simp, by simp, by omega, fun _ => rfl, fun h => absurd rfl h⟩, HL0.out⟩
  case round =>
    obtain ⟨ps, acc, n, c, rfl, rfl, bs, hU, hlen, hN, hL⟩ := hrel
    obtain ⟨A, cap, r0, hRd, hBy⟩ := hL.rest_cell
    obtain ⟨i1, ⟨Ap, cp, i0, hIt⟩, hnx⟩ := hL.part_cells hN.2.1
    have hNlow := hN.low
    obtain ⟨n1, n2, n3, n4, n5, n6⟩ := id hN
    obtain ⟨d, hd⟩ : ∃ d, ps.length = d := ⟨_, rfl⟩
    obtain ⟨lb, hlb⟩ : ∃ lb, bs.length = lb := ⟨_, rfl⟩
    rw [HPB.out] at i1 i0 hnx
    rw [hd] at i1 i0 hnx n2 ⊢
    rw [hlb] at r0 hRd hBy hlen
    have HU := Lib.hid hU
    have HN := Lib.hid hN
    have HL := Lib.hid hL
    have HRD := Lib.hid hRd
    have HBY := Lib.hid hBy
    have HIT := Lib.hid hIt
    have HNX := Lib.hid hnx
    have HD := Lib.hid hd
    have HLB := Lib.hid hlb
    have H5 := Lib.hid n5
    have H6 := Lib.hid n6
    clear hU hN hL hRd hBy hIt hnx hd hlb n5 n6
    have hdI : (d : Int) ≤ 8 := by omega
    have hd9 : (d : Int) < 9 := by omega
    by_cases hdone : ps = [] ∧ bs = []
    · obtain ⟨rfl, rfl⟩ := hdone
      obtain rfl : d = 0 := by simpa using HD.out.symm
      obtain rfl : lb = 0 := by simpa using HLB.out.symm
      have hRT2 : RT = .ok acc := by rw [← HU.out]; exact unw_done acc n c n1
      have HRT2 := Lib.hid hRT2
      clear hRT2
      go_wp2_with fail
      go_ret2
      rw [HRT2.out]
      exact ⟨_, rfl, HL.out.grown, HIT.out⟩
    · by_cases hcl : ps ≠ [] ∧ n = 0
      · obtain ⟨hne, rfl⟩ := hcl
        match ps, hne with
        | (a, t) :: ps, _ =>
          obtain ⟨d, rfl⟩ : ∃ d', d = d' + 1 := ⟨d - 1, by have := HD.out; simp at this; omega⟩
          have hd : ps.length = d := by simpa using HD.out
          obtain ⟨Au, lu, cu, q1, q2, q3⟩ := (HL.out.drew (by have := HL.out.grown.size; have := HPB.out; omega)).close HN.out (by have := HPB.out; omega) hn
          have hU2 : unw ps (a ++ [.mk 2 0 noT acc]) (t - 1) c bs = RT := by rw [← unw_close]; exact HU.out
          rw [HPB.out, hd] at q1
          rw [HPB.out, hd] at q3
          change Calls _ _ #[.pointer (some ⟨pb, d * 2, none⟩), .agg #[.int .i64 2, .int .i64 0, .string ⟨#[]⟩, .slice Au lu cu]] _ _ at q3
          have HU2 := Lib.hid hU2
          have HQ2 := Lib.hid q2
          have HQ3 := Lib.hid q3
          have e0 : (((d + 1 : Nat) : Int) == 0) = false := by rw [beq_eq_false_iff_ne]; omega
          have e1 : 0 < ((d + 1 : Nat) : Int) := by omega
          have e2 : ((d + 1 : Nat) : Int) - 1 = (d : Int) := by omega
          have HD2 := Lib.hid hd
          clear hU2 q2 q3 hdone hd HD
          go_wp2_with fail
          go_region_with (go_at_call 56; ((with_reducible refine HQ3.out.mono ?_); rintro e W2 ⟨rfl, hL2⟩; have HL2 := Lib.hid hL2; clear hL2))
          all_goals
            go_wp2_with fail
            refine ⟨⟨ps, _, _, c, by rw [HD2.out], rfl, bs, HU2.out, by have := HLB.out; omega, HQ2.out, HL2.out⟩, ?_⟩
            simp [intOf]
      · have hM : More ps n bs := ⟨fun hp hb => hdone ⟨hp, hb⟩, fun hp => by
          have h1 := H6.out hp
          have h2 : n ≠ 0 := fun e => hcl ⟨hp, e⟩
          omega⟩
        have hfacts : (((d : Int) == 0) = true ∧ ((lb : Int) == 0) = false ∧ ¬ 0 < (d : Int)) ∨ (((d : Int) == 0) = false ∧ 0 < (d : Int) ∧ (n == 0) = false) := by
          by_cases hp : ps = []
          · left
            have h1 : d = 0 := by rw [← HD.out, hp]; rfl
            have h2 : lb ≠ 0 := fun e => hM.1 hp (List.length_eq_zero_iff.1 (HLB.out.trans e))
            refine ⟨by rw [beq_iff_eq]; omega, by rw [beq_eq_false_iff_ne]; omega, by omega⟩
          · right
            have h1 : d ≠ 0 := fun e => hp (List.length_eq_zero_iff.1 (HD.out.trans e))
            have h2 := hM.2 hp
            refine ⟨by rw [beq_eq_false_iff_ne]; omega, by omega, by rw [beq_eq_false_iff_ne]; omega⟩
        have HM := Lib.hid hM
        clear hdone hcl hM
        have hpbw : pb ≤ wr.heap.size := by have := HL.out.grown.size; have := HPB.out; omega
        by_cases hlong : c = 4096 ∨ d = 8
        · have hRT2 : RT = .error 2 := by rw [← HU.out]; exact unw_long ps acc n c bs HM.out n1 (by rw [HD.out]; exact n2) (by rw [HD.out]; exact hlong)
          have HRT2 := Lib.hid hRT2
          have hq : ((c : Int) == 4096) = true ∨ (((c : Int) == 4096) = false ∧ ((d : Int) == 8) = true) := by
            by_cases h : c = 4096
            · left; rw [beq_iff_eq]; omega
            · right; exact ⟨by rw [beq_eq_false_iff_ne]; omega, by rw [beq_iff_eq]; omega⟩
          clear hRT2 hlong
          rcases hfacts with ⟨f1, f2, f3⟩ | ⟨f1, f2, f3⟩
          all_goals
            rcases hq with g1 | ⟨g1, g2⟩
          all_goals
            go_wp2_with fail
            go_ret2
            rw [HRT2.out]
            exact ⟨.slice none 0 0, rfl, HL.out.grown, .nil none 0 _ (fun _ => rfl) rfl⟩
        · have hc4 : c < 4096 := by omega
          have hd8 : d < 8 := by omega
          have g1 : ((c : Int) == 4096) = false := by rw [beq_eq_false_iff_ne]; omega
          have g2 : ((d : Int) == 8) = false := by rw [beq_eq_false_iff_ne]; omega
          have cH := head_calls rb n₀ (.slice A lb cap) bs (by have := HLB.out; omega) wr HRD.out HBY.out hn
          obtain ⟨RH, hRH⟩ : ∃ RH, rdHead bs = RH := ⟨_, rfl⟩
          rw [hRH] at cH
          have HCH := Lib.hid cH
          have HRH := Lib.hid hRH
          clear cH hRH hlong
          rcases hfacts with ⟨f1, f2, f3⟩ | ⟨f1, f2, f3⟩
          all_goals
            go_wp2_with fail
            refine HCH.out.mono ?_
            clear HCH r0 i0 i1
            rintro e W2 hN2
            cases RH with
            | error k =>
              obtain ⟨rfl, hk, hG⟩ := hN2
              have hkI : ((k : Int) != 0) = true := by rw [bne_iff_ne]; omega
              have hRT2 : RT = .error k := by rw [← HU.out]; exact unw_head ps acc n c bs HM.out hc4 (by rw [HD.out]; exact hd8) HRH.out
              have HRT2 := Lib.hid hRT2
              have HG := Lib.hid (HL.out.grown.trans hG)
              clear hRT2 hG
              go_wp2_with fail
              go_ret2
              rw [HRT2.out]
              exact ⟨.slice none 0 0, rfl, HG.out, .nil none 0 _ (fun _ => rfl) rfl⟩
            | ok q =>
              obtain ⟨k, m, r⟩ := q
              obtain ⟨rfl, B2, hR2, hI2, hG2, hs2⟩ := hN2
              have hL2 := HL.out.rest (by have := HPB.out; omega) hG2 hs2 hR2 hI2
              obtain ⟨hk2, hm63, hm64, hrl⟩ := head_is HRH.out
              have HL2 := Lib.hid hL2
              have HR2 := Lib.hid hR2
              have HI2 := Lib.hid hI2
              have hrlen : r.length ≤ 65536 := by have := HLB.out; omega
              have hpb2 : pb ≤ W2.heap.size := by omega
              clear hL2 hR2 hI2 hG2 hs2 hrl
              rcases (show k = 0 ∨ k = 1 ∨ k = 2 by omega) with rfl | rfl | rfl
              · have hU2 : unw ps (acc ++ [.mk 0 (unzig m) noT []]) (n - 1) (c + 1) r = RT := by rw [← HU.out]; exact (unw_int ps acc n c bs HM.out hc4 (by rw [HD.out]; exact hd8) HRH.out).symm
                have HU2 := Lib.hid hU2
                clear hU2
                go_wp2_with fail
                refine (signed_calls m hm64 _).mono ?_
                rintro e W3 ⟨rfl, rfl⟩
                go_wp2_with fail
                refine (int_calls _ _).mono ?_
                rintro e W4 ⟨rfl, B4⟩
                have hL4 := HL2.out.below (by omega) B4
                have cP := hL4.put HN.out (by have := HPB.out; omega) hn (.mk 0 (unzig m) noT []) rfl (c + 1) (Nat.le_succ c)
                rw [HPB.out, HD.out] at cP
                change Calls _ _ #[.pointer (some ⟨pb, d * 2, none⟩), .agg #[.int .i64 0, .int .i64 (unzig m), .string ⟨#[]⟩, .slice none 0 0]] _ _ at cP
                have HCP := Lib.hid cP
                clear cP B4 hL4
                go_wp2_with fail
                refine HCP.out.mono ?_
                clear HCP
                rintro e W5 ⟨rfl, hL5⟩
                have HL5 := Lib.hid hL5
                clear hL5
                go_wp2_with fail
                refine ⟨⟨ps, _, _, c + 1, by rw [HD.out], by go_num, r, HU2.out, hrlen, HN.out.more HM.out hc4 _, HL5.out⟩, ?_⟩
                simp [intOf]
                omega
              · by_cases hsh : r.length < m
                · have hRT2 : RT = .error 5 := by rw [← HU.out]; exact unw_end ps acc n c bs HM.out hc4 (by rw [HD.out]; exact hd8) HRH.out hsh
                  have HRT2 := Lib.hid hRT2
                  have cT := text_short rb n₀ m B2 r hrlen W2 HR2.out HI2.out hsh
                  have HCT := Lib.hid cT
                  clear hRT2 cT
                  go_wp2_with fail
                  refine HCT.out.mono ?_
                  clear HCT
                  rintro e W3 ⟨rfl, rfl⟩
                  go_wp2_with fail
                  go_ret2
                  rw [HRT2.out]
                  exact ⟨.slice none 0 0, rfl, HL2.out.grown, .nil none 0 _ (fun _ => rfl) rfl⟩
                · have hU2 : unw ps (acc ++ [.mk 1 0 (str (r.take m)) []]) (n - 1) (c + 1) (r.drop m) = RT := by rw [← HU.out]; exact (unw_text ps acc n c bs HM.out hc4 (by rw [HD.out]; exact hd8) HRH.out hsh).symm
                  have HU2 := Lib.hid hU2
                  have cT := text_long rb n₀ m B2 r hrlen W2 HR2.out HI2.out hn (by omega)
                  have HCT := Lib.hid cT
                  clear hU2 cT
                  go_wp2_with fail
                  refine HCT.out.mono ?_
                  clear HCT
                  rintro e W3 ⟨rfl, hG3, hs3, B3, hR3, hI3⟩
                  have hL3 := HL2.out.rest (by have := HPB.out; omega) hG3 hs3 hR3 hI3
                  have HL3 := Lib.hid hL3
                  have hpb3 : pb ≤ W3.heap.size := by omega
                  have hrl3 : (r.drop m).length ≤ 65536 := by simp; omega
                  obtain ⟨st, hst⟩ : ∃ st, str (r.take m) = st := ⟨_, rfl⟩
                  rw [hst]
                  have hU3 := HU2.out
                  rw [hst] at hU3
                  have HU3 := Lib.hid hU3
                  clear hG3 hs3 hR3 hI3 hL3 HU2 hU3 hst
                  go_wp2_with fail
                  refine (text_calls _ _).mono ?_
                  rintro e W4 ⟨rfl, B4⟩
                  have hL4 := HL3.out.below (by omega) B4
                  have cP := hL4.put HN.out (by have := HPB.out; omega) hn (.mk 1 0 st []) rfl (c + 1) (Nat.le_succ c)
                  rw [HPB.out, HD.out] at cP
                  change Calls _ _ #[.pointer (some ⟨pb, d * 2, none⟩), .agg #[.int .i64 1, .int .i64 0, .string st, .slice none 0 0]] _ _ at cP
                  have HCP := Lib.hid cP
                  clear cP B4 hL4
                  go_wp2_with fail
                  refine HCP.out.mono ?_
                  clear HCP
                  rintro e W5 ⟨rfl, hL5⟩
                  have HL5 := Lib.hid hL5
                  clear hL5
                  go_wp2_with fail
                  refine ⟨⟨ps, _, _, c + 1, by rw [HD.out], by go_num, _, HU3.out, hrl3, HN.out.more HM.out hc4 _, HL5.out⟩, ?_⟩
                  simp [intOf]
                  omega
              · have hm63' := hm63 (by decide)
                have hU2 : unw ((acc, n) :: ps) [] m (c + 1) r = RT := by rw [← HU.out]; exact (unw_list ps acc n c bs HM.out hc4 (by rw [HD.out]; exact hd8) HRH.out).symm
                have hps := HL2.out.push HN.out (by
                  by_cases hp : ps = []
                  · exact .inl hp
                  · exact .inr (HM.out.2 hp)) (by have := HPB.out; omega) hn (by rw [HD.out]; exact hd8) hc4 hm63'
                rw [HPB.out, HD.out] at hps
                obtain ⟨hN3, hL3⟩ := hps
                obtain ⟨_, _, hnx⟩ := HL2.out.part_cells (by rw [HD.out]; exact n2)
                rw [HPB.out, HD.out] at hnx
                obtain ⟨z0, v0, y0⟩ := hnx hd8 0 (by omega)
                obtain ⟨z1, v1, y1⟩ := hnx hd8 1 (by omega)
                rw [Nat.add_zero] at z0 y0
                have HU2 := Lib.hid hU2
                have HN3 := Lib.hid hN3
                have HL3 := Lib.hid hL3
                have hmI : (m : Int) ≤ 9223372036854775807 := by omega
                clear hU2 hN3 hL3 hnx hm63
                go_wp2_with fail
                refine ⟨⟨(acc, n) :: ps, [], m, c + 1, ?_, by go_num, r, HU2.out, hrlen, HN3.out, HL3.out⟩, ?_⟩
                · have := HD.out
                  simp only [List.length_cons, this]
                  go_num
                · simp [intOf]
                  omega

end Go.Proofs.Ytffehnojcajhiaa.Wire
