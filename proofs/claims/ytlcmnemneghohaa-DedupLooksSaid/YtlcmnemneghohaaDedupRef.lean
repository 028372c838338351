/-
  Contracts of the document's Last, Look, Good and Same, and of the code's Good.
-/
import Derived.Test.YtlcmnemneghohaaDedupPlace
namespace Go.Proofs.Ytlcmnemneghohaa.Dedup
open Go Go.RowKit Go.Lib Go.Sort Go.Shelf Go.Proofs.Ytlcmnemneghohaa.Law

theorem rw_ext {x y : Rw} (h1 : x.p = y.p) (h2 : x.q = y.q) (h3 : x.n = y.n) : x = y := by cases x; cases y; simp_all

set_option maxRecDepth 1000000 in
set_option maxHeartbeats 2000000 in
theorem refLast_calls (l : List Rw) (p q : Int) (v : Value) (w : World) (hm : l.length ≤ 281474976710656) (hl : OldW w.heap.size w v l) :
    Calls Try.prog 11 #[v, .int .i64 p, .int .i64 q] w (RetN w (lastL l p q)) := by
  obtain ⟨A, cap, rfl, _⟩ := hl.form
  obtain ⟨n, hN⟩ : ∃ n, l.length = n := ⟨_, rfl⟩
  rw [hN] at hl hm ⊢
  have HN := Lib.hid hN
  have HL := Lib.hid hl
  clear hN hl
  obtain ⟨z, hz⟩ : ∃ z, lastL l p q = z := ⟨_, rfl⟩
  rw [hz]
  have HZ := Lib.hid hz
  clear hz
  go_enter Try.func11, Try.ntmps11
  go_wp2_with fail
  go_loopw [7] (fun i wr => ∃ k : Nat, i = .int .i64 k ∧ k ≤ n ∧ Hid ((∀ j y, j < k → l[j]? = some y → isIt p q y = false) ∧ Below w.heap.size w wr)) (fun i _ => n - (intOf i).toNat)
  case atStart => exact ⟨0, rfl, Nat.zero_le _, Lib.hid ⟨fun j y hj => absurd hj (Nat.not_lt_zero _), Below.refl _ _⟩⟩
  case round =>
    obtain ⟨k, rfl, hk, HO⟩ := hrel
    by_cases hlt : k < n
    · obtain ⟨x, hx⟩ : ∃ x, l[k]? = some x := ⟨_, List.getElem?_eq_getElem (by rw [HN.out]; exact hlt)⟩
      obtain ⟨hK, hB⟩ := HO.out
      obtain ⟨b, off, rfl, hb, hc⟩ := (ThreeAt.low hB HL.out).at (by omega)
      obtain ⟨c0, c1, c2⟩ := hc k x hx
      dsimp only [pV, qV, nV] at c0 c1 c2
      have HB := Lib.hid hB
      have HK1 : Hid (k + 1 ≤ n) := Lib.hid hlt
      have hgo : isIt p q x = false → Hid (∀ j y, j < k + 1 → l[j]? = some y → isIt p q y = false) := fun hf => Lib.hid fun j y hj hy => by
        rcases Nat.lt_or_ge j k with h1 | h1
        · exact hK j y h1 hy
        · obtain rfl : j = k := by omega
          rw [hx] at hy
          obtain rfl := Option.some.inj hy
          exact hf
      have hyes : isIt p q x = true → Hid (z = x.n) := fun hf => Lib.hid (by rw [← HZ.out]; exact last_at hx hf hK)
      by_cases hp : x.p = p
      · by_cases hq : x.q = q
        · have HY := hyes (isIt_iff.2 ⟨hp, hq⟩)
          have e1 : (x.p == p) = true := by rw [beq_iff_eq]; exact hp
          have e2 : (x.q == q) = true := by rw [beq_iff_eq]; exact hq
          clear hK hB hb hc hx hgo hyes HO hp hq
          go_wp2_with fail
          go_ret
          exact ⟨by rw [HY.out]; rfl, HB.out⟩
        · have HGO := hgo (by rw [Bool.eq_false_iff]; exact fun h => hq (isIt_iff.1 h).2)
          have e1 : (x.p == p) = true := by rw [beq_iff_eq]; exact hp
          have e2 : (x.q == q) = false := beq_eq_false_iff_ne.2 hq
          clear hK hB hb hc hx hgo hyes HO hp hq
          go_wp2_with fail
          go_roundw
          case rel => exact ⟨k + 1, by go_num, HK1.out, Lib.hid ⟨HGO.out, HB.out⟩⟩
          case measure => have h := HK1.out; simp [intOf]; omega
      · have HGO := hgo (by rw [Bool.eq_false_iff]; exact fun h => hp (isIt_iff.1 h).1)
        have e1 : (x.p == p) = false := beq_eq_false_iff_ne.2 hp
        clear hK hB hb hc hx hgo hyes HO hp
        go_wp2_with fail
        go_roundw
        case rel => exact ⟨k + 1, by go_num, HK1.out, Lib.hid ⟨HGO.out, HB.out⟩⟩
        case measure => have h := HK1.out; simp [intOf]; omega
    · obtain rfl : k = n := by omega
      have HY : Hid (z = -1) := Lib.hid (by
        rw [← HZ.out]
        exact last_none fun x hx => by
          obtain ⟨j, hj⟩ := List.getElem?_of_mem hx
          exact HO.out.1 j x (by rw [← HN.out]; exact (List.getElem?_eq_some_iff.1 hj).1) hj)
      go_wp2_with fail
      go_ret
      exact ⟨by rw [HY.out]; rfl, HO.out.2⟩

set_option maxRecDepth 1000000 in
set_option maxHeartbeats 2000000 in
theorem refLook_calls (l : List Rw) (p q seq : Int) (v : Value) (w : World) (hm : l.length ≤ 281474976710656) (hl : OldW w.heap.size w v l) (hr : -9223372036854775808 ≤ lastL l p q ∧ lastL l p q ≤ 9223372036854775807) (hs : -9223372036854775808 ≤ seq ∧ seq ≤ 9223372036854775807) :
    Calls Try.prog 13 #[v, .int .i64 p, .int .i64 q, .int .i64 seq] w (RetN w (lookL (lastL l p q) seq)) := by
  have C := Lib.hid (refLast_calls l p q v w hm hl)
  generalize lastL l p q = z at C hr ⊢
  obtain ⟨A, cap, rfl, _⟩ := hl.form
  obtain ⟨r, hz⟩ : ∃ r, lookL z seq = r := ⟨_, rfl⟩
  rw [hz]
  have HZ := Lib.hid hz
  clear hl hz
  go_enter Try.func13, Try.ntmps13
  go_wp2_with fail
  refine C.out.mono ?_
  rintro e W2 ⟨rfl, hB⟩
  have HB := Lib.hid hB
  clear hB C hm
  obtain ⟨h1, h2⟩ := hr
  obtain ⟨h3, h4⟩ := hs
  by_cases e1 : seq = z ∧ z = 9223372036854775807
  · obtain ⟨rfl, rfl⟩ := e1
    have hr : r = 4 := by rw [← HZ.out]; unfold lookL; rw [if_pos ⟨rfl, rfl⟩]
    subst hr
    go_wp2_with fail
    go_ret
    exact ⟨rfl, HB.out⟩
  · by_cases e2 : seq ≤ z
    · have hr : r = 2 := by rw [← HZ.out]; unfold lookL; rw [if_neg e1, if_pos e2]
      subst hr
      by_cases e3 : z = 9223372036854775807
      · subst e3
        have e4 : (seq == 9223372036854775807) = false := by rw [beq_eq_false_iff_ne]; exact fun h => e1 ⟨h, rfl⟩
        clear e1
        go_wp2_with fail
        go_ret
        exact ⟨rfl, HB.out⟩
      · have e4 : (z == 9223372036854775807) = false := beq_eq_false_iff_ne.2 e3
        clear e1 e3
        go_wp2_with fail
        go_ret
        exact ⟨rfl, HB.out⟩
    · have e4 : (z == 9223372036854775807) = false := beq_eq_false_iff_ne.2 (by omega)
      have e5 : IntKind.i64.wrap (seq - 1) = seq - 1 := by rw [IntKind.wrap_i64]; omega
      clear e1
      by_cases e6 : seq = z + 1
      · have hr : r = 1 := by rw [← HZ.out]; exact look_one.2 e6
        subst hr
        have e7 : (seq - 1 == z) = true := by rw [beq_iff_eq]; omega
        clear e6
        go_wp2_with fail
        go_ret
        exact ⟨rfl, HB.out⟩
      · have hr : r = 3 := by rw [← HZ.out]; unfold lookL; rw [if_neg (by omega), if_neg e2, if_neg e6]
        subst hr
        have e7 : (seq - 1 == z) = false := beq_eq_false_iff_ne.2 (by omega)
        clear e6
        go_wp2_with fail
        go_ret
        exact ⟨rfl, HB.out⟩

theorem take_snoc3 {l : List Rw} {k : Nat} {x : Rw} (h : l[k]? = some x) : l.take (k + 1) = l.take k ++ [x] := by
  obtain ⟨hl, rfl⟩ := List.getElem?_eq_some_iff.1 h
  rw [List.take_add_one, List.getElem?_eq_getElem hl]; rfl
theorem same_snoc {l m : List Rw} {k : Nat} {x y : Rw} (hx : l[k]? = some x) (hy : m[k]? = some y) (h : l.take k = m.take k) (he : x = y) : l.take (k + 1) = m.take (k + 1) := by
  rw [take_snoc3 hx, take_snoc3 hy, h, he]

set_option maxRecDepth 1000000 in
set_option maxHeartbeats 4000000 in
theorem refSame_calls (l m : List Rw) (hl : l.length ≤ 281474976710656) (hm : m.length ≤ 281474976710656) (v u : Value) (w : World) (h : OldW w.heap.size w v l) (hu : OldW w.heap.size w u m) :
    Calls Try.prog 16 #[v, u] w (RetB w (decide (l = m))) := by
  obtain ⟨g, hg⟩ : ∃ g, decide (l = m) = g := ⟨_, rfl⟩
  rw [hg]
  obtain ⟨A, cap, rfl, _⟩ := h.form
  obtain ⟨B, kap, rfl, _⟩ := hu.form
  obtain ⟨n, hN⟩ : ∃ n, l.length = n := ⟨_, rfl⟩
  obtain ⟨n2, hN2⟩ : ∃ n2, m.length = n2 := ⟨_, rfl⟩
  rw [hN] at h hl ⊢
  rw [hN2] at hu hm ⊢
  by_cases hnn2 : n = n2
  · subst hnn2
    have g1 : ((n : Int) != (n : Int)) = false := by simp [bne]
    have HN := Lib.hid hN
    have HN2 := Lib.hid hN2
    have HI := Lib.hid h
    have HU := Lib.hid hu
    have HG := Lib.hid hg
    clear hN hN2 h hu hg hm
    go_enter Try.func16, Try.ntmps16
    go_wp2_with fail
    go_loopw [5] (fun i wr => ∃ k : Nat, i = .int .i64 k ∧ k ≤ n ∧ Hid (l.take k = m.take k ∧ Below w.heap.size w wr)) (fun i _ => n - (intOf i).toNat)
    case atStart => exact ⟨0, rfl, Nat.zero_le _, Lib.hid ⟨rfl, Below.refl _ _⟩⟩
    case round =>
      obtain ⟨k, rfl, hk, HO⟩ := hrel
      by_cases hlt : k < n
      · obtain ⟨x, hx⟩ : ∃ x, l[k]? = some x := ⟨_, List.getElem?_eq_getElem (by rw [HN.out]; exact hlt)⟩
        obtain ⟨y, hy⟩ : ∃ y, m[k]? = some y := ⟨_, List.getElem?_eq_getElem (by rw [HN2.out]; exact hlt)⟩
        obtain ⟨hK, hB⟩ := HO.out
        obtain ⟨b, off, rfl, hb, hc⟩ := (ThreeAt.low hB HI.out).at (by omega)
        obtain ⟨b2, off2, rfl, hb2, hc2⟩ := (ThreeAt.low hB HU.out).at (by omega)
        obtain ⟨c0, c1, c2⟩ := hc k x hx
        obtain ⟨d0, d1, d2⟩ := hc2 k y hy
        dsimp only [pV, qV, nV] at c0 c1 c2 d0 d1 d2
        have HK1 : Hid (k + 1 ≤ n) := Lib.hid hlt
        have HB := Lib.hid hB
        have hbad : x ≠ y → Hid (g = false) := fun hno => Lib.hid (by
          rw [← HG.out]
          refine decide_eq_false fun e => hno ?_
          rw [e, hy] at hx
          exact (Option.some.inj hx).symm)
        have hgo : x = y → Hid (l.take (k + 1) = m.take (k + 1)) := fun e => Lib.hid (same_snoc hx hy hK e)
        by_cases hp : x.p = y.p
        · have e1 : (x.p != y.p) = false := by rw [hp]; simp [bne]
          by_cases hq : x.q = y.q
          · have e2 : (x.q != y.q) = false := by rw [hq]; simp [bne]
            by_cases hn : x.n = y.n
            · have e3 : (x.n != y.n) = false := by rw [hn]; simp [bne]
              have HGO := hgo (rw_ext hp hq hn)
              clear hK hB hb hb2 hc hc2 hx hy hbad hgo HO hp hq hn
              go_wp2_with fail
              go_quiet (fail)
              go_wp2_with fail
              go_roundw
              case rel => exact ⟨k + 1, by go_num, HK1.out, Lib.hid ⟨HGO.out, HB.out.trans ((grown_low _ nq #[]).mono HB.out.size)⟩⟩
              case measure => have h := HK1.out; simp [intOf]; omega
            · have e3 : (x.n != y.n) = true := by rw [bne_iff_ne]; exact hn
              have HBAD := hbad fun h => hn (by rw [h])
              clear hK hB hb hb2 hc hc2 hx hy hbad hgo HO hp hq hn
              go_wp2_with fail
              go_quiet (fail)
              go_wp2_with fail
              go_ret
              exact ⟨by rw [HBAD.out]; rfl, HB.out.trans ((grown_low _ nq #[]).mono HB.out.size)⟩
          · have e2 : (x.q != y.q) = true := by rw [bne_iff_ne]; exact hq
            have HBAD := hbad fun h => hq (by rw [h])
            clear hK hB hb hb2 hc hc2 hx hy hbad hgo HO hp hq
            go_wp2_with fail
            go_quiet (fail)
            go_wp2_with fail
            go_ret
            exact ⟨by rw [HBAD.out]; rfl, HB.out.trans ((grown_low _ nq #[]).mono HB.out.size)⟩
        · have e1 : (x.p != y.p) = true := by rw [bne_iff_ne]; exact hp
          have HBAD := hbad fun h => hp (by rw [h])
          clear hK hB hb hb2 hc hc2 hx hy hbad hgo HO hp
          go_wp2_with fail
          go_quiet (fail)
          go_wp2_with fail
          go_ret
          exact ⟨by rw [HBAD.out]; rfl, HB.out.trans ((grown_low _ nq #[]).mono HB.out.size)⟩
      · obtain rfl : k = n := by omega
        obtain ⟨hK, hB⟩ := HO.out
        rw [List.take_of_length_le (by rw [HN.out]; exact Nat.le_refl _), List.take_of_length_le (by rw [HN2.out]; exact Nat.le_refl _)] at hK
        have HF : Hid (g = true) := Lib.hid (by rw [← HG.out]; exact decide_eq_true hK)
        have HB := Lib.hid hB
        clear hK hB HO
        go_wp2_with fail
        go_ret
        exact ⟨by rw [HF.out]; rfl, HB.out⟩
  · have HBAD : Hid (g = false) := Lib.hid (by
      rw [← hg]
      exact decide_eq_false fun e => hnn2 (by rw [← hN, ← hN2, e]))
    have hI2 : ((n : Int) != (n2 : Int)) = true := by rw [bne_iff_ne]; omega
    clear hN hN2 h hu hg hl hm
    go_enter Try.func16, Try.ntmps16
    go_wp2_with fail
    go_ret
    exact ⟨by rw [HBAD.out]; rfl, Below.refl _ _⟩

end Go.Proofs.Ytlcmnemneghohaa.Dedup
