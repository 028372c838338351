/-
  The walk of DedupOnce.
-/
import Derived.Test.YtlcmnemneghohaaDedupKnown
import Derived.Test.YtlcmnemneghohaaRowOf
namespace Go.Proofs.Ytlcmnemneghohaa.Dedup
open Go Go.RowKit Go.Lib Go.Sort Go.Shelf Go.Proofs Go.Proofs.Ytlcmnemneghohaa.Law

theorem look_two {last s : Int} (h : last < 9223372036854775807) : lookL last s = 2 ↔ s ≤ last := by
  unfold lookL
  rw [if_neg (by omega)]
  split
  · constructor <;> intro _ <;> omega
  · split <;> constructor <;> intro _ <;> omega

abbrev iV : Int → Value := fun x => .int .i64 x
theorem info_int : (Try.prog.info? 3).map (fun i => (i.zero, i.size, i.bytes)) = some (some (.int .i64 0), 1, 8) := by kernel_rfl
/-- What holds behind k numbers that came: the rows, and how many were taken of each. -/
structure OnceM (w : World) (r k : Nat) (R : List Rw) (T : List Int) (v : Value) (W : World) : Prop where
  rows : OwnW W (r + 1) v R
  good : Good R
  wf : ∀ x ∈ R, wfRw x
  len : R.length ≤ k
  taken : OwnRow iV 3 W w.heap.size (.slice (some ⟨r, 0, none⟩) 512 512) T
  tlen : T.length = 512
  tells : ∀ p q, rightN p q = true → T[(8 * p + q).toNat]? = some (lastL R p q + 1)
  few : ∀ p q, lastL R p q + 1 ≤ k
  low : Below w.heap.size w W
  size : r + 1 ≤ W.heap.size
theorem last_ge {R : List Rw} (h : Good R) (p q : Int) : -1 ≤ lastL R p q := by
  unfold lastL
  cases hf : R.find? (isIt p q) with
  | none => simp
  | some x =>
    have := (h.right x (List.mem_of_find?_eq_some hf)).2
    show -1 ≤ x.n
    omega
theorem place_lt {p q : Int} (h : rightN p q = true) : (8 * p + q).toNat < 512 := by
  obtain ⟨h1, h2, h3, h4⟩ := rightN_iff.1 h
  omega
theorem place_inj {p q p' q' : Int} (h : rightN p q = true) (h' : rightN p' q' = true) (e : (8 * p + q).toNat = (8 * p' + q').toNat) : p' = p ∧ q' = q := by
  obtain ⟨h1, h2, h3, h4⟩ := rightN_iff.1 h
  obtain ⟨g1, g2, g3, g4⟩ := rightN_iff.1 h'
  omega
/-- A number that isn't taken leaves all as it was. -/
theorem OnceM.stay {w : World} {r k : Nat} {R : List Rw} {T : List Int} {v v' : Value} {W W' : World} (h : OnceM w r k R T v W) (hv : OwnW W' W.heap.size v' R) (hB : Below W.heap.size W W') : OnceM w r (k + 1) R T v' W' where
  rows := hv.base (by have := h.size; omega)
  good := h.good
  wf := h.wf
  len := Nat.le_succ_of_le h.len
  taken := h.taken.below hB
  tlen := h.tlen
  tells := h.tells
  few := fun p q => by have := h.few p q; omega
  low := h.low.trans (hB.mono h.low.size)
  size := Nat.le_trans h.size hB.size
/-- A number that is taken. -/
theorem OnceM.take {w : World} {r k : Nat} {R : List Rw} {T : List Int} {v v' : Value} {W W' : World} (h : OnceM w r k R T v W) (hw : w.heap.size ≤ r) {p q s : Int} (hr : rightN p q = true) (hs : s = lastL R p q + 1) (hsw : i64 s) (hv : OwnW W' W.heap.size v' (takeS R p q s)) (hB : Below W.heap.size W W') :
    OnceM w r (k + 1) (takeS R p q s) (T.set (8 * p + q).toNat (s + 1)) v' (W'.setCell ⟨r, (8 * p + q).toNat, none⟩ (.int .i64 (s + 1))) := by
  have hs0 : 0 ≤ s := by have := last_ge h.good p q; omega
  obtain ⟨hT, hG⟩ := (h.taken.below hB).store (8 * p + q).toNat (s + 1)
  have hrs : W.heap.size ≠ r := by have := h.size; omega
  refine ⟨?_, h.good.take hr hs0, fun x hx => ?_, ?_, hT, by rw [List.length_set]; exact h.tlen, fun p' q' hr' => ?_, fun p' q' => ?_, ?_, ?_⟩
  · refine (hv.base (by have := h.size; omega)).keep fun b hb => hG.block b (hv.own hb).2 (fun e => ?_)
    have e1 : b = r := by simpa using e
    have := (hv.own hb).1
    have := h.size
    omega
  · rcases takeS_mem hx with h1 | rfl
    · exact h.wf x h1
    · obtain ⟨r1, r2, r3, r4⟩ := rightN_iff.1 hr
      exact ⟨⟨by show _ ≤ p; omega, by show p ≤ _; omega⟩, ⟨by show _ ≤ q; omega, by show q ≤ _; omega⟩, hsw⟩
  · have := takeS_len R p q s
    have := h.len
    omega
  · by_cases he : p' = p ∧ q' = q
    · obtain ⟨rfl, rfl⟩ := he
      rw [List.getElem?_set_self (by rw [h.tlen]; exact place_lt hr), last_take h.good hr]
    · rw [List.getElem?_set_ne (fun e => he (place_inj hr hr' e)), last_other h.good hr he]
      exact h.tells p' q' hr'
  · by_cases he : p' = p ∧ q' = q
    · obtain ⟨rfl, rfl⟩ := he
      rw [last_take h.good hr]
      have := h.few p' q'
      omega
    · rw [last_other h.good hr he]
      have := h.few p' q'
      omega
  · refine (h.low.trans (hB.mono h.low.size)).grown hG (by have := h.low.size; have := hB.size; omega) (fun b hb => ?_)
    have e1 : r = b := by simpa using hb
    omega
  · have := h.size
    have := hB.size
    have hg : W'.heap.size ≤ (W'.setCell ⟨r, (8 * p + q).toNat, none⟩ (.int .i64 (s + 1))).heap.size := hG.size
    omega

theorem mod_place (z : Int) (m : Nat) (h0 : 0 < m) (h1 : m ≤ 64) : ∃ P : Int, 0 ≤ P ∧ P < m ∧ wrap64 ((IntKind.u64.wrap z).tmod (m : Int)) = P := by
  have h2 : 0 ≤ IntKind.u64.wrap z := wrap_u64_nonneg z
  have h3 : (IntKind.u64.wrap z).tmod (m : Int) = IntKind.u64.wrap z % (m : Int) := Int.tmod_eq_emod_of_nonneg h2
  have h4 : 0 ≤ IntKind.u64.wrap z % (m : Int) := Int.emod_nonneg _ (by omega)
  have h5 : IntKind.u64.wrap z % (m : Int) < m := Int.emod_lt_of_pos _ (by omega)
  refine ⟨IntKind.u64.wrap z % (m : Int), h4, h5, ?_⟩
  rw [h3]
  simp only [wrap64]
  omega

set_option maxRecDepth 1000000 in
set_option maxHeartbeats 8000000 in
theorem dedupOnce_law (l : List Rw) (hwf : ∀ x ∈ l, wfRw x) (hl : l.length * 24 ≤ 140737488351232) (v : Value) (w : World) (h : OldW w.heap.size w v l) :
    Calls Try.prog 5 #[v] w fun e W' => e = .returned (.bool true) ∧ Below w.heap.size w W' := by
  have CK := Lib.hid (known_calls w)
  obtain ⟨i0, hi0, hz0, hzs, hzb⟩ := info_parts info_int
  obtain ⟨A, cap, rfl, _⟩ := h.form
  obtain ⟨n, hn⟩ : ∃ n, l.length = n := ⟨_, rfl⟩
  have HN := Lib.hid hn
  rw [hn] at h hl ⊢
  have HH := Lib.hid h
  have HWF := Lib.hid hwf
  have hnm : n ≤ 281474976710656 := by omega
  clear hl h hn hwf
  go_enter Try.func5, Try.ntmps5
  go_wp2_with fail
  refine CK.out.mono ?_
  rintro e W1 ⟨rfl, hB1⟩
  go_wp2_with (at_make; refine wpList_make_full _ rfl _ _ _ rfl W1.heap.size 3 i0 (.int .i64 0) 1 Try.underlying33 hi0 hz0 hzs _ _ _ _ 512 rfl rfl rfl rfl (by rw [hzb]; decide) (by simp only [maxLen]; decide) (Nat.le_refl _) ?_; intro W2 hO2 hg2)
  obtain ⟨r, hr⟩ : ∃ r, W1.heap.size = r := ⟨_, rfl⟩
  have HR : Hid (w.heap.size ≤ r) := Lib.hid (by rw [← hr]; exact hB1.size)
  have HM : Hid (OnceM w r 0 [] (List.replicate 512 0) (.slice none 0 0) W2) := Lib.hid (by
    have hsz : r + 1 ≤ W2.heap.size := by
      have := hO2.lt r (by rw [hr]; rfl)
      omega
    refine ⟨OwnThree.nil _ _ _, good_nil, fun x hx => (by simp at hx), Nat.le_refl _, ?_, List.length_replicate, fun p q hpq => ?_, fun p q => by simp [last_nil], ?_, hsz⟩
    · have e : (madeCells (Value.int IntKind.i64 0).cells (512 * 1)).toList = (List.replicate 512 (0 : Int)).map iV := by
        rw [show (Value.int IntKind.i64 0).cells = #[.int .i64 0] from rfl, toList_madeCells_one]
        simp
      rw [e, hr] at hO2
      have h3 : OwnRow iV 3 W2 W1.heap.size (.slice (some ⟨r, 0, none⟩) 512 512) (List.replicate 512 0) := by
        unfold OwnRow
        rw [List.length_replicate, hr]
        exact hO2
      rcases h3.2 with ⟨h0, _⟩ | ⟨g, c, cur, h4, h5, h6⟩
      · cases h0
      · exact ⟨h3.1, .inr ⟨g, c, cur, h4, Nat.le_trans hB1.size h5, h6⟩⟩
    · rw [last_nil, List.getElem?_replicate, if_pos (place_lt hpq)]
      rfl
    · exact hB1.grown hg2 hB1.size (fun k hk => by cases hk))
  rw [hr]
  clear hr hO2 hg2 hB1 CK hi0 hz0 hzs hzb
  go_wp2_with fail
  go_loopw [3, 5] (fun rv i wr => ∃ (k : Nat) (ov : Value), ov = rv ∧ i = .int .i64 k ∧ k ≤ n ∧ k ≤ 300 ∧ Hid (∃ R T, OnceM w r k R T ov wr)) (fun _ i _ => n - (intOf i).toNat)
  case atStart => exact ⟨0, _, rfl, rfl, Nat.zero_le _, Nat.zero_le _, Lib.hid ⟨_, _, HM.out⟩⟩
  case round =>
    obtain ⟨k, ov, rfl, rfl, hk, hk3, HE⟩ := hrel
    obtain ⟨R, T, hM⟩ := HE.out
    have hcase : (k < n ∧ k < 300) ∨ (k = n) ∨ (k < n ∧ k = 300) := by omega
    rcases hcase with ⟨hlt, hlt3⟩ | hend | ⟨hlt, hend⟩
    · obtain ⟨x, hx⟩ : ∃ x, l[k]? = some x := ⟨_, List.getElem?_eq_getElem (by rw [HN.out]; exact hlt)⟩
      obtain ⟨bb, off, rfl, hbb, hc⟩ := (ThreeAt.low hM.low HH.out).at (by omega)
      obtain ⟨c0, c1, c2⟩ := hc k x hx
      dsimp only [pV, qV, nV] at c0 c1 c2
      obtain ⟨P, hP0, hP1, hP⟩ := mod_place x.p 64 (by omega) (by omega)
      obtain ⟨Q, hQ0, hQ1, hQ⟩ := mod_place x.q 8 (by omega) (by omega)
      have hPQ : rightN P Q = true := rightN_iff.2 ⟨hP0, by omega, hQ0, by omega⟩
      obtain ⟨J, hJ⟩ : ∃ J : Nat, (8 * P + Q).toNat = J := ⟨_, rfl⟩
      have hJ2 : (J : Int) = 8 * P + Q := by omega
      have hJlt : (J : Int) < 512 := by omega
      have m1 : IntKind.i64.wrap (8 * P) = 8 * P := by rw [IntKind.wrap_i64]; omega
      have m2 : IntKind.i64.wrap (8 * P + Q) = (J : Int) := by rw [IntKind.wrap_i64]; omega
      have hsw : i64 x.n := (HWF.out x (List.mem_of_getElem? hx)).2.2
      have CT := Lib.hid (take_calls R hM.good P Q x.n ov wr (by have := hM.len; omega) (hM.rows.old) (wf_last hM.wf P Q) hsw)
      obtain ⟨N, hNx⟩ : ∃ N, lastL R P Q + 1 = N := ⟨_, rfl⟩
      have hT1 := hM.tells P Q hPQ
      rw [hNx, hJ] at hT1
      have hkk : (k : Int) < (n : Int) := by omega
      have hk30 : (k : Int) < 300 := by omega
      have HMM := Lib.hid hM
      have HP : Hid (wrap64 ((IntKind.u64.wrap x.p).tmod 64) = P) := Lib.hid hP
      have HQ : Hid (wrap64 ((IntKind.u64.wrap x.q).tmod 8) = Q) := Lib.hid hQ
      have HLE : Hid (k + 1 ≤ n ∧ k + 1 ≤ 300) := Lib.hid ⟨hlt, hlt3⟩
      have HX := Lib.hid (And.intro hx (ThreeAt.low hM.low HH.out))
      have HT1 := Lib.hid hT1
      have HNx := Lib.hid hNx
      have HJ := Lib.hid hJ
      have HPQ := Lib.hid hPQ
      have HSW := Lib.hid hsw
      clear hM hc hP hQ hP0 hP1 hQ0 hQ1 hx hbb hT1 hNx HE hJ hJ2 hPQ hsw
      by_cases hlk : lookL (lastL R P Q) x.n = 1
      · have hres : takeL R P Q x.n = (takeS R P Q x.n, 1) := by unfold takeL; rw [if_pos HPQ.out, if_pos hlk]
        rw [hres] at CT
        have hxN : x.n = N := by rw [← HNx.out]; exact look_one.1 hlk
        have HXN := Lib.hid hxN
        clear hres hlk
        have q1 : (x.n == N) = true := by rw [beq_iff_eq]; exact hxN
        have q2 : decide (x.n < N) = false := decide_eq_false (by omega)
        have q3 : IntKind.i64.wrap (N + 1) = N + 1 := by
          have h1 := HMM.out.few P Q
          have h2 := last_ge HMM.out.good P Q
          rw [HNx.out] at h1
          have h3 := HNx.out
          rw [IntKind.wrap_i64]; omega
        clear hxN
        go_wp2_with fail
        rw [HP.out, HQ.out]
        refine CT.out.mono ?_
        rintro e W3 ⟨v3, rfl, hO3, hB3⟩
        have hM := HMM.out
        obtain ⟨bb3, off3, hA3, hbb3, hc3⟩ := (ThreeAt.low (hM.low.trans (hB3.mono hM.low.size)) HH.out).at (by omega)
        simp only [Option.some.injEq, Addr.mk.injEq, and_true] at hA3
        obtain ⟨rfl, rfl⟩ := hA3
        obtain ⟨e0, e1, e2⟩ := hc3 k x HX.out.1
        dsimp only [pV, qV, nV] at e0 e1 e2
        have hT3 := hM.taken.below hB3
        obtain ⟨t0, tf⟩ := hT3.cell HT1.out
        have hF := hM.take HR.out HPQ.out (by rw [HNx.out]; exact HXN.out) HSW.out hO3 hB3
        rw [HJ.out, HXN.out] at hF
        have HF := Lib.hid hF
        clear hM hc3 hbb3 hT3 hF hO3 hB3 CT c0 c1 c2
        go_wp2_with fail
        go_roundw
        case rel => exact ⟨k + 1, _, rfl, by go_num, HLE.out.1, HLE.out.2, Lib.hid ⟨_, _, HF.out⟩⟩
        case measure => have h := HLE.out; simp [intOf]; omega
      · have hres : takeL R P Q x.n = (R, lookL (lastL R P Q) x.n) := by unfold takeL; rw [if_pos HPQ.out, if_neg hlk]
        rw [hres] at CT
        have hxN : ¬ x.n = N := by rw [← HNx.out]; exact fun h => hlk (look_one.2 h)
        have q1 : (x.n == N) = false := beq_eq_false_iff_ne.2 hxN
        have hfew := HMM.out.few P Q
        have hl2 := look_two (s := x.n) (show lastL R P Q < 9223372036854775807 by omega)
        obtain ⟨z, hz⟩ : ∃ z, lookL (lastL R P Q) x.n = z := ⟨_, rfl⟩
        rw [hz] at CT hl2 hlk
        have q2 : (z == 1) = false := beq_eq_false_iff_ne.2 hlk
        obtain ⟨b2, hb2⟩ : ∃ b2, (z == 2) = b2 := ⟨_, rfl⟩
        have q3 : decide (x.n < N) = b2 := by
          rw [← hb2, Bool.eq_iff_iff, decide_eq_true_eq, beq_iff_eq, hl2, ← HNx.out]
          omega
        have q4 : (b2 != b2) = false := by simp [bne]
        clear hres hlk hxN hfew hl2 hz
        go_wp2_with fail
        rw [HP.out, HQ.out]
        refine CT.out.mono ?_
        rintro e W3 ⟨v3, rfl, hO3, hB3⟩
        have hM := HMM.out
        obtain ⟨bb3, off3, hA3, hbb3, hc3⟩ := (ThreeAt.low (hM.low.trans (hB3.mono hM.low.size)) HH.out).at (by omega)
        simp only [Option.some.injEq, Addr.mk.injEq, and_true] at hA3
        obtain ⟨rfl, rfl⟩ := hA3
        obtain ⟨e0, e1, e2⟩ := hc3 k x HX.out.1
        dsimp only [pV, qV, nV] at e0 e1 e2
        have hT3 := hM.taken.below hB3
        obtain ⟨t0, tf⟩ := hT3.cell HT1.out
        have HF := Lib.hid (hM.stay hO3 hB3)
        clear hM hc3 hbb3 hT3 hO3 hB3 CT c0 c1 c2
        go_wp2_with fail
        go_roundw
        case rel => exact ⟨k + 1, _, rfl, by go_num, HLE.out.1, HLE.out.2, Lib.hid ⟨_, _, HF.out⟩⟩
        case measure => have h := HLE.out; simp [intOf]; omega
    all_goals
      obtain ⟨wA, rfl⟩ : ∃ x, x = wr := ⟨_, rfl⟩
      have HA := Lib.hid hM
      clear hM HE
    rotate_left
    · have hq : decide (k < 300) = false := decide_eq_false (by omega)
      have hq1 : ¬ (k : Int) < 300 := by omega
      have hq2 : (k : Int) < (n : Int) := by omega
      clear hend
      go_upto_region 17 with fail
      go_wp2_with fail
      go_loopw [11] (fun s wr => ∃ P : Nat, s = .int .i64 P ∧ P ≤ 64 ∧ Hid (Below wA.heap.size wA wr)) (fun s _ => 64 - (intOf s).toNat)
      case atStart => exact ⟨0, rfl, Nat.zero_le _, Lib.hid (Below.refl _ _)⟩
      case round =>
        obtain ⟨P, rfl, hP, HB1⟩ := hrel
        by_cases hPl : P < 64
        · have hPl2 : (P : Int) < 64 := by omega
          have HPL : Hid (P + 1 ≤ 64) := Lib.hid hPl
          obtain ⟨wB, rfl⟩ : ∃ x, x = wr := ⟨_, rfl⟩
          go_wp2_with fail
          go_loopw [12] (fun s wr => ∃ Q : Nat, s = .int .i64 Q ∧ Q ≤ 8 ∧ Hid (Below wA.heap.size wA wr)) (fun s _ => 8 - (intOf s).toNat)
          case atStart => exact ⟨0, rfl, Nat.zero_le _, HB1⟩
          case round =>
            obtain ⟨Q, rfl, hQ, HB2⟩ := hrel
            by_cases hQl : Q < 8
            · have hQl2 : (Q : Int) < 8 := by omega
              have HQL : Hid (Q + 1 ≤ 8) := Lib.hid hQl
              have hPQ : rightN (P : Int) (Q : Int) = true := rightN_iff.2 ⟨by omega, by omega, by omega, by omega⟩
              obtain ⟨J, hJ⟩ : ∃ J : Nat, (8 * (P : Int) + (Q : Int)).toNat = J := ⟨_, rfl⟩
              have hJlt : (J : Int) < 512 := by omega
              have m1 : IntKind.i64.wrap (8 * (P : Int)) = 8 * (P : Int) := by rw [IntKind.wrap_i64]; omega
              have m2 : IntKind.i64.wrap (8 * (P : Int) + (Q : Int)) = (J : Int) := by rw [IntKind.wrap_i64]; omega
              obtain ⟨z, hz⟩ : ∃ z, lastL R (P : Int) (Q : Int) = z := ⟨_, rfl⟩
              have hT := HA.out.tells P Q hPQ
              rw [hJ, hz] at hT
              have hzr := wf_last HA.out.wf (P : Int) (Q : Int)
              have hzf := HA.out.few (P : Int) (Q : Int)
              rw [hz] at hzr hzf
              have m3 : IntKind.i64.wrap (z + 1 - 1) = z := by rw [IntKind.wrap_i64]; omega
              have m4 : IntKind.i64.wrap z = z := by rw [IntKind.wrap_i64]; omega
              have e1 : (z != z) = false := by simp [bne]
              have hrow := fun d os => ThreeAt.on ((HB2.out.trans ((below_regrown wr d os).mono HB2.out.size))) HA.out.rows.old
              have k1 := fun d os => Calls.regrown_of (d := d) (os := os) (last_calls R P Q ov _ (by have := HA.out.len; omega) (hrow d os))
              rw [hz] at k1
              have K1 := Lib.hid k1
              obtain ⟨t0, -⟩ := (HA.out.taken.keep (fun g hg => HB2.out.block g (HA.out.taken.own hg).2)).cell hT
              have u0 := fun d os => cell_regrown t0 d os
              clear k1 hrow hT hzr hzf hz hJ hPQ hQl hPl
              go_wp2_with fail
              refine wp_region_quiet_below (by kernel_rfl) (by kernel_rfl) ?_
              repeat (go_big_quiet_step (exact K1.out _ _))
              refine wpQuiet_nil ?_
              intro w' hw'
              obtain ⟨⟨d, os⟩, rfl⟩ := hw'
              have HF : Hid (Below wA.heap.size wA (grow (redrawn wr d) os)) := Lib.hid (HB2.out.trans ((below_regrown wr d os).mono HB2.out.size))
              clear u0 t0 K1
              generalize grow (redrawn wr d) os = w5 at HF ⊢
              go_wp2_with fail
              go_roundw
              case rel => exact ⟨Q + 1, by go_num, HQL.out, HF⟩
              case measure => have h := HQL.out; simp [intOf]; omega
            · obtain rfl : Q = 8 := by omega
              go_wp2_with fail
              go_roundw
              case rel => exact ⟨P + 1, by go_num, HPL.out, HB2⟩
              case measure => have h := HPL.out; simp [intOf]; omega
        · obtain rfl : P = 64 := by omega
          have CG := good_calls R (by have := HA.out.len; omega) ov wr (ThreeAt.on HB1.out HA.out.rows.old)
          rw [(goodC_iff R).2 HA.out.good] at CG
          have CG := Lib.hid CG
          go_wp2_with fail
          refine CG.out.mono ?_
          rintro e W9 ⟨rfl, hB9⟩
          have HF : Hid (Below w.heap.size w W9) := Lib.hid ((HA.out.low.trans (HB1.out.mono HA.out.low.size)).trans (hB9.mono (by have := HB1.out.size; have := HA.out.low.size; omega)))
          clear hB9 CG
          go_wp2_with fail
          go_ret
          exact ⟨rfl, HF.out⟩
    · subst hend
      go_upto_region 17 with fail
      go_wp2_with fail
      go_loopw [11] (fun s wr => ∃ P : Nat, s = .int .i64 P ∧ P ≤ 64 ∧ Hid (Below wA.heap.size wA wr)) (fun s _ => 64 - (intOf s).toNat)
      case atStart => exact ⟨0, rfl, Nat.zero_le _, Lib.hid (Below.refl _ _)⟩
      case round =>
        obtain ⟨P, rfl, hP, HB1⟩ := hrel
        by_cases hPl : P < 64
        · have hPl2 : (P : Int) < 64 := by omega
          have HPL : Hid (P + 1 ≤ 64) := Lib.hid hPl
          obtain ⟨wB, rfl⟩ : ∃ x, x = wr := ⟨_, rfl⟩
          go_wp2_with fail
          go_loopw [12] (fun s wr => ∃ Q : Nat, s = .int .i64 Q ∧ Q ≤ 8 ∧ Hid (Below wA.heap.size wA wr)) (fun s _ => 8 - (intOf s).toNat)
          case atStart => exact ⟨0, rfl, Nat.zero_le _, HB1⟩
          case round =>
            obtain ⟨Q, rfl, hQ, HB2⟩ := hrel
            by_cases hQl : Q < 8
            · have hQl2 : (Q : Int) < 8 := by omega
              have HQL : Hid (Q + 1 ≤ 8) := Lib.hid hQl
              have hPQ : rightN (P : Int) (Q : Int) = true := rightN_iff.2 ⟨by omega, by omega, by omega, by omega⟩
              obtain ⟨J, hJ⟩ : ∃ J : Nat, (8 * (P : Int) + (Q : Int)).toNat = J := ⟨_, rfl⟩
              have hJlt : (J : Int) < 512 := by omega
              have m1 : IntKind.i64.wrap (8 * (P : Int)) = 8 * (P : Int) := by rw [IntKind.wrap_i64]; omega
              have m2 : IntKind.i64.wrap (8 * (P : Int) + (Q : Int)) = (J : Int) := by rw [IntKind.wrap_i64]; omega
              obtain ⟨z, hz⟩ : ∃ z, lastL R (P : Int) (Q : Int) = z := ⟨_, rfl⟩
              have hT := HA.out.tells P Q hPQ
              rw [hJ, hz] at hT
              have hzr := wf_last HA.out.wf (P : Int) (Q : Int)
              have hzf := HA.out.few (P : Int) (Q : Int)
              rw [hz] at hzr hzf
              have m3 : IntKind.i64.wrap (z + 1 - 1) = z := by rw [IntKind.wrap_i64]; omega
              have m4 : IntKind.i64.wrap z = z := by rw [IntKind.wrap_i64]; omega
              have e1 : (z != z) = false := by simp [bne]
              have hrow := fun d os => ThreeAt.on ((HB2.out.trans ((below_regrown wr d os).mono HB2.out.size))) HA.out.rows.old
              have k1 := fun d os => Calls.regrown_of (d := d) (os := os) (last_calls R P Q ov _ (by have := HA.out.len; omega) (hrow d os))
              rw [hz] at k1
              have K1 := Lib.hid k1
              obtain ⟨t0, -⟩ := (HA.out.taken.keep (fun g hg => HB2.out.block g (HA.out.taken.own hg).2)).cell hT
              have u0 := fun d os => cell_regrown t0 d os
              clear k1 hrow hT hzr hzf hz hJ hPQ hQl hPl
              go_wp2_with fail
              refine wp_region_quiet_below (by kernel_rfl) (by kernel_rfl) ?_
              repeat (go_big_quiet_step (exact K1.out _ _))
              refine wpQuiet_nil ?_
              intro w' hw'
              obtain ⟨⟨d, os⟩, rfl⟩ := hw'
              have HF : Hid (Below wA.heap.size wA (grow (redrawn wr d) os)) := Lib.hid (HB2.out.trans ((below_regrown wr d os).mono HB2.out.size))
              clear u0 t0 K1
              generalize grow (redrawn wr d) os = w5 at HF ⊢
              go_wp2_with fail
              go_roundw
              case rel => exact ⟨Q + 1, by go_num, HQL.out, HF⟩
              case measure => have h := HQL.out; simp [intOf]; omega
            · obtain rfl : Q = 8 := by omega
              go_wp2_with fail
              go_roundw
              case rel => exact ⟨P + 1, by go_num, HPL.out, HB2⟩
              case measure => have h := HPL.out; simp [intOf]; omega
        · obtain rfl : P = 64 := by omega
          have CG := good_calls R (by have := HA.out.len; omega) ov wr (ThreeAt.on HB1.out HA.out.rows.old)
          rw [(goodC_iff R).2 HA.out.good] at CG
          have CG := Lib.hid CG
          go_wp2_with fail
          refine CG.out.mono ?_
          rintro e W9 ⟨rfl, hB9⟩
          have HF : Hid (Below w.heap.size w W9) := Lib.hid ((HA.out.low.trans (HB1.out.mono HA.out.low.size)).trans (hB9.mono (by have := HB1.out.size; have := HA.out.low.size; omega)))
          clear hB9 CG
          go_wp2_with fail
          go_ret
          exact ⟨rfl, HF.out⟩

end Go.Proofs.Ytlcmnemneghohaa.Dedup
