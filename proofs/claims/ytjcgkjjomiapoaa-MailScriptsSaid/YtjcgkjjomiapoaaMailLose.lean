/-
  Contracts of slices.IndexFunc, slices.DeleteFunc at messages with Lose's closure, and of mail's Lose.
-/
import Derived.Test.YtjcgkjjomiapoaaMailSpoil
namespace Go.Proofs.Ytjcgkjjomiapoaa.Mail
open Go Go.RowKit Go.Proofs.Ytjcgkjjomiapoaa.Law

/-- Is the message from the node or to it? -/
def hits (node : Int) (m : Msg) : Bool := decide (m.src = node) || decide (m.dst = node)
def keeps (node : Int) (m : Msg) : Bool := !hits node m

def BoolB (w : World) (b : Bool) (e : Ending) (W : World) : Prop := e = .returned (.bool b) ∧ Below w.heap.size w W

set_option maxRecDepth 100000 in
theorem hits_calls (node : Int) (m : Msg) (bx : Nat) (w : World) (hb : w.cell? ⟨bx, 0, none⟩ = some (.int .i64 node)) (hbl : bx < w.heap.size) :
    Calls Try.prog 33 #[msgV m, .pointer (some ⟨bx, 0, none⟩)] w (BoolB w (hits node m)) := by
  obtain ⟨S, D, T⟩ := m
  have HB := Lib.hid ((Below.refl w.heap.size w).alloc (Nat.le_refl _) (.cells #[.int .i64 S, .int .i64 D, .string T] 68))
  obtain ⟨r, hr⟩ : ∃ r, hits node ⟨S, D, T⟩ = r := ⟨_, rfl⟩
  rw [hr]
  by_cases h1 : S = node
  · subst h1
    obtain rfl : r = true := by rw [← hr]; simp [hits]
    clear hr
    go_enter Try.func33, Try.ntmps33
    go_wp2_with fail
    go_ret
    exact ⟨rfl, HB.out⟩
  · have hd : ((S : Int) == node) = false := by rw [beq_eq_false_iff_ne]; exact h1
    by_cases h2 : D = node
    · subst h2
      obtain rfl : r = true := by rw [← hr]; simp [hits]
      clear hr h1
      go_enter Try.func33, Try.ntmps33
      go_wp2_with fail
      go_ret
      exact ⟨rfl, HB.out⟩
    · have hd2 : ((D : Int) == node) = false := by rw [beq_eq_false_iff_ne]; exact h2
      obtain rfl : r = false := by rw [← hr]; simp [hits, h1, h2]
      clear hr h1 h2
      go_enter Try.func33, Try.ntmps33
      go_wp2_with fail
      go_ret
      exact ⟨rfl, HB.out⟩

/-- The first that is hit: its place, or -1. -/
def IndexOut (w : World) (node : Int) (ms : List Msg) (e : Ending) (W : World) : Prop :=
  Below w.heap.size w W ∧ ((e = .returned (.int .i64 (-1)) ∧ ∀ m ∈ ms, hits node m = false) ∨
    ∃ (k : Nat) (m : Msg), e = .returned (.int .i64 (k : Nat)) ∧ ms[k]? = some m ∧ hits node m = true ∧ ∀ x ∈ ms.take k, hits node x = false)

set_option maxRecDepth 100000 in
set_option maxHeartbeats 2000000 in
theorem index_calls (base : Nat) (v : Value) (ms : List Msg) (node : Int) (bx : Nat) (w : World) (hO : Seg w base 68 3 v ms.length (flatM ms)) (hlen : ms.length ≤ 1000000000) (hb : w.cell? ⟨bx, 0, none⟩ = some (.int .i64 node)) (hbl : bx < w.heap.size) :
    Calls Try.prog 37 #[v, .func (.func 33) #[] #[.pointer (some ⟨bx, 0, none⟩)]] w (IndexOut w node ms) := by
  obtain ⟨R, rc, rfl, _⟩ := hO.form
  obtain ⟨n, hn⟩ : ∃ n, ms.length = n := ⟨_, rfl⟩
  rw [hn] at hO hlen ⊢
  have HO := Lib.hid hO
  have HN := Lib.hid hn
  have HB := Lib.hid hb
  clear hO hn hb
  go_enter Try.func37, Try.ntmps37
  go_wp2_with fail
  go_loopw [8] (fun i wr => ∃ k : Nat, i = .int .i64 k ∧ k ≤ n ∧ (∀ x ∈ ms.take k, hits node x = false) ∧ Below w.heap.size w wr) (fun i _ => n - (intOf i).toNat)
  case atStart => exact ⟨0, rfl, Nat.zero_le _, by simp, Below.refl _ _⟩
  case round =>
    obtain ⟨k, rfl, hk, hno, hBr⟩ := hrel
    have HNO := Lib.hid hno
    have HBr := Lib.hid hBr
    have hsr := hBr.size
    clear hno hBr
    by_cases hlt : k < n
    · obtain ⟨m, hm⟩ : ∃ m, ms[k]? = some m := ⟨_, List.getElem?_eq_getElem (by rw [HN.out]; exact hlt)⟩
      have hOr : Seg wr base 68 3 (.slice R n rc) n (flatM ms) := HO.out.below HBr.out
      obtain ⟨g, o, cur, rfl, hbg, hg, hnc, hcm, hfit, _⟩ := hOr.at (by omega)
      obtain ⟨e0, e1, e2⟩ := seg_msg hOr hm
      have hglt : g < wr.heap.size := lt_of_at hg
      have CH := Lib.hid (hits_calls node m bx wr ((HBr.out.cell (p := ⟨bx, 0, none⟩) hbl).trans HB.out) (by omega))
      have hltI : (k : Int) < (n : Int) := by omega
      have htk : ms.take (k + 1) = ms.take k ++ [m] := by
        rw [List.take_succ_eq_append_getElem (by rw [HN.out]; exact hlt), (List.getElem?_eq_some_iff.1 hm).2]
      have HTK := Lib.hid htk
      have HM := Lib.hid hm
      clear hOr hg htk hm
      cases hh : hits node m with
      | true =>
        rw [hh] at CH
        have HH := Lib.hid hh
        clear hh
        go_wp2_with fail
        refine CH.out.mono ?_
        rintro e w2 ⟨rfl, hB2⟩
        have HB2 := Lib.hid (HBr.out.trans (hB2.mono hsr))
        clear hB2 CH
        go_wp2_with fail
        go_ret
        exact ⟨HB2.out, .inr ⟨k, m, rfl, HM.out, HH.out, HNO.out⟩⟩
      | false =>
        rw [hh] at CH
        have HH := Lib.hid hh
        clear hh
        go_wp2_with fail
        refine CH.out.mono ?_
        rintro e w2 ⟨rfl, hB2⟩
        have HB2 := Lib.hid (HBr.out.trans (hB2.mono hsr))
        clear hB2 CH
        go_wp2_with fail
        go_roundw
        case rel => exact ⟨k + 1, by go_num, by omega, fun x hx => by
          rw [HTK.out] at hx
          rcases List.mem_append.1 hx with hx | hx
          · exact HNO.out x hx
          · simp only [List.mem_singleton] at hx
            rw [hx]; exact HH.out, HB2.out⟩
        case measure => simp [intOf]; omega
    · obtain rfl : k = n := by omega
      have hltI : ¬ (k : Int) < (k : Int) := by omega
      go_wp2_with fail
      go_ret
      exact ⟨HBr.out, .inl ⟨rfl, fun x hx => HNO.out x (by rw [← HN.out, List.take_length]; exact hx)⟩⟩

theorem flatM_put : ∀ {l : List Msg} {i : Nat} (m : Msg), i < l.length → flatM (l.set i m) = (((flatM l).set (i * 3) (.int .i64 m.src)).set (i * 3 + 1) (.int .i64 m.dst)).set (i * 3 + 2) (.string m.s)
  | [], i, m, h => by simp at h
  | q :: r, 0, m, _ => rfl
  | q :: r, i + 1, m, h => by
    have ih := flatM_put (l := r) (i := i) m (by simpa using h)
    rw [show (i + 1) * 3 = i * 3 + 3 by omega, show i * 3 + 3 + 1 = (i * 3 + 1) + 3 by omega, show i * 3 + 3 + 2 = (i * 3 + 2) + 3 by omega]
    simp only [List.set_cons_succ, flatM, ih]

/-- An element is written over. -/
theorem seg_put {W : World} {base n cap g o : Nat} {ms : List Msg} (hn : ms.length = n) (hO : Seg W base 68 3 (.slice (some ⟨g, o, none⟩) n cap) n (flatM ms)) {i : Nat} (hi : i < n) (m : Msg) :
    Seg (((W.setCell ⟨g, o + i * 3, none⟩ (.int .i64 m.src)).setCell ⟨g, o + i * 3 + 1, none⟩ (.int .i64 m.dst)).setCell ⟨g, o + i * 3 + 2, none⟩ (.string m.s)) base 68 3 (.slice (some ⟨g, o, none⟩) n cap) n (flatM (ms.set i m)) ∧
      W.grownBy (((W.setCell ⟨g, o + i * 3, none⟩ (.int .i64 m.src)).setCell ⟨g, o + i * 3 + 1, none⟩ (.int .i64 m.dst)).setCell ⟨g, o + i * 3 + 2, none⟩ (.string m.s)) (some g) := by
  subst hn
  obtain ⟨g', o', cur, he, hbg, hg, hnc, hcm, hfit, ht⟩ := hO.at (by omega)
  simp only [Option.some.injEq, Addr.mk.injEq, and_true] at he
  obtain ⟨rfl, rfl⟩ := he
  have hg' := heap_set (heap_set (heap_set hg (o + i * 3) (.int .i64 m.src)) (o + i * 3 + 1) (.int .i64 m.dst)) (o + i * 3 + 2) (.string m.s)
  refine ⟨hO.wrote hg hg' (by simp) (by rw [flatM_length, List.length_set]) hnc ?_, grownBy_trans (grownBy_trans (grown_set _ _ _ _) (grown_set _ _ _ _)) (grown_set _ _ _ _)⟩
  rw [flatM_put m hi, ← ht]
  simp only [Array.toList_setIfInBounds]
  rw [show o + i * 3 + 2 = o + (i * 3 + 2) by omega, show o + i * 3 + 1 = o + (i * 3 + 1) by omega]
  rw [List.drop_set, if_neg (by omega), List.drop_set, if_neg (by omega), List.drop_set, if_neg (by omega), List.take_set, List.take_set, List.take_set]
  rw [show o + (i * 3 + 2) - o = i * 3 + 2 by omega, show o + (i * 3 + 1) - o = i * 3 + 1 by omega, show o + i * 3 - o = i * 3 by omega]

/-- What DeleteFunc leaves. -/
def DelOut (w : World) (base : Nat) (rv : Value) (ms : List Msg) (e : Ending) (W : World) : Prop :=
  ∃ v', e = .returned v' ∧ Seg W base 68 3 v' ms.length (flatM ms) ∧ w.grownBy W rv.ownBlock ∧ v'.ownBlock = rv.ownBlock

theorem grown_any {W W' : World} (h : Below W.heap.size W W') (r : Option Nat) : W.grownBy W' r := ⟨h.os, h.tape, h.output, h.size, fun k hk _ => h.block k hk⟩

theorem cleared {W w : World} {base g o n cap i : Nat} {l : List Msg} (hl : l.length = n) (hO : Seg W base 68 3 (.slice (some ⟨g, o, none⟩) n cap) n (flatM l)) (hi : i < n) (hgr : w.grownBy W (some g)) :
    ∃ W2, (∀ ty, (Builtin.clear_ #[63] ty #[.slice (some ⟨g, o + i * 3, none⟩) (n - i) (cap - i)]).run Try.prog W = .ok (.tuple #[]) W2) ∧ Seg W2 base 68 3 (.slice (some ⟨g, o, none⟩) i cap) i (flatM (l.take i)) ∧ w.grownBy W2 (some g) := by
  subst hl
  obtain ⟨g', o', cur, he, hbg, hg, hnc, hcm, hfit, ht⟩ := hO.at (by omega)
  simp only [Option.some.injEq, Addr.mk.injEq, and_true] at he
  obtain ⟨rfl, rfl⟩ := he
  have hc := fun ty => run_clear_msgs W ty g (o + i * 3) (l.length - i) (cap - i) cur hg (by omega)
  refine ⟨_, hc, hO.wrote hg (setRow_heap _ g cur _ _ _ hg) ?_ ?_ (by omega) ?_, grownBy_trans hgr (setRow_by _ _ _)⟩
  · simp only [List.size_toArray, List.length_append, List.length_take, List.length_drop, Array.length_toList, noMsgs_length]
    omega
  · rw [flatM_length, List.length_take]; omega
  · obtain ⟨c2, hc2⟩ : ∃ c2, cur.toList.drop (o + i * 3 + (l.length - i) * 3) = c2 := ⟨_, rfl⟩
    rw [hc2]
    show List.take _ (List.drop o (_ : List Value)) = _
    rw [drop_take_front _ _ _ _ _ (by rw [Array.length_toList]; omega), take_front ht (by omega), flatM_take]

set_option maxRecDepth 100000 in
set_option maxHeartbeats 4000000 in
theorem deleteFunc_calls (base : Nat) (v : Value) (ms : List Msg) (node : Int) (bx : Nat) (w : World) (hO : Seg w base 68 3 v ms.length (flatM ms)) (hlen : ms.length ≤ 1000000000) (hb : w.cell? ⟨bx, 0, none⟩ = some (.int .i64 node)) (hbl : bx < w.heap.size) (hbv : v.ownBlock ≠ some bx) :
    Calls Try.prog 32 #[v, .func (.func 33) #[] #[.pointer (some ⟨bx, 0, none⟩)]] w (DelOut w base v (ms.filter (keeps node))) := by
  have CI := Lib.hid (index_calls base v ms node bx w hO hlen hb hbl)
  obtain ⟨R, rc, rfl, hncap⟩ := hO.form
  obtain ⟨n, hn⟩ : ∃ n, ms.length = n := ⟨_, rfl⟩
  rw [hn] at hO hlen hncap CI ⊢
  rw [hn] at hbv
  have HO := Lib.hid hO
  have HN := Lib.hid hn
  have HB := Lib.hid hb
  clear hO hn hb
  go_enter Try.func32, Try.ntmps32
  go_wp2_with fail
  refine CI.out.mono ?_
  rintro e w1 ⟨hB1, (⟨rfl, hno⟩ | ⟨k, m, rfl, hm, hh, hno⟩)⟩
  · have hall : ms.filter (keeps node) = ms := List.filter_eq_self.2 fun x hx => by simp [keeps, hno x hx]
    have HFIN : Hid (DelOut w base (.slice R n rc) (ms.filter (keeps node)) (.returned (.slice R n rc)) w1) := ⟨_, rfl, by rw [hall, HN.out]; exact HO.out.below hB1, grown_any hB1 _, rfl⟩
    clear hno hall hB1 CI
    go_wp2_with fail
    go_ret
    exact HFIN.out
  · have hkn : k < n := by have := (List.getElem?_eq_some_iff.1 hm).1; have := HN.out; omega
    obtain ⟨g, o, cur, rfl, hbg, hg, hnc, hcm, hfit, _⟩ := HO.out.at (by omega)
    have hgb : g ≠ bx := fun e => hbv (by rw [e]; rfl)
    have hglt : g < w.heap.size := lt_of_at hg
    have htk : ms.take (k + 1) = ms.take k ++ [m] := by
      rw [List.take_succ_eq_append_getElem (by rw [HN.out]; exact hkn), (List.getElem?_eq_some_iff.1 hm).2]
    have hkept : (ms.take (k + 1)).filter (keeps node) = ms.take k := by
      rw [htk, List.filter_append, List.filter_eq_self.2 (fun x hx => by simp [keeps, hno x hx])]
      simp [keeps, hh]
    have hkl : (ms.take k).length = k := by rw [List.length_take, HN.out]; omega
    have hwhole : ms.take k ++ [m] ++ ms.drop (k + 1) = ms := by rw [← htk, List.take_append_drop]
    have HK := Lib.hid hkept
    have HKL := Lib.hid hkl
    have HW := Lib.hid hwhole
    have hO1 := HO.out.below hB1
    have HO1 := Lib.hid hO1
    have HG1 := Lib.hid (grown_any hB1 (some g))
    have hkI : (k : Int) + 1 ≤ (n : Int) := by omega
    have hk1I : ((k : Int) == -1) = false := by rw [beq_eq_false_iff_ne]; omega
    have hncI : n ≤ rc := hnc
    unfold maxLen at hcm
    clear hm hh hno htk hkept hkl hwhole hO1 hg hB1 CI hbv
    go_wp2_with fail
    go_loopw [5, 6] (fun iv jv wr => ∃ (i j : Nat) (kept mid : List Msg), iv = .int .i64 i ∧ jv = .int .i64 j ∧ i < j ∧ j ≤ n ∧ (kept = (ms.take j).filter (keeps node) ∧ kept.length = i ∧ mid.length = j - i) ∧ Seg wr base 68 3 (.slice (some ⟨g, o, none⟩) n rc) n (flatM (kept ++ mid ++ ms.drop j)) ∧ w.grownBy wr (some g)) (fun _ jv _ => n - (intOf jv).toNat)
    case atStart => exact ⟨k, k + 1, ms.take k, [m], rfl, by go_num, by omega, by omega, ⟨HK.out.symm, HKL.out, by simp⟩, by rw [HW.out]; exact HO1.out, HG1.out⟩
    case round =>
      obtain ⟨i, j, kept, mid, rfl, rfl, hij, hj, ⟨hkp, hkpl, hml⟩, hOr, hGr⟩ := hrel
      have hsr := hGr.size
      have hll : (kept ++ mid ++ ms.drop j).length = n := by
        rw [List.length_append, List.length_append, List.length_drop, HN.out]; omega
      have HLL := Lib.hid hll
      have HOr := Lib.hid hOr
      have HGr := Lib.hid hGr
      have HKP := Lib.hid hkp
      have HKPL := Lib.hid hkpl
      have HML := Lib.hid hml
      clear hOr hGr hkp hkpl hml hll
      by_cases hlt : j < n
      · obtain ⟨m2, hm2⟩ : ∃ m2, ms[j]? = some m2 := ⟨_, List.getElem?_eq_getElem (by rw [HN.out]; exact hlt)⟩
        have hat : (kept ++ mid ++ ms.drop j)[j]? = some m2 := by
          have hp : (kept ++ mid).length = j := by rw [List.length_append, HKPL.out, HML.out]; omega
          rw [List.getElem?_append_right (by omega), hp, Nat.sub_self, List.getElem?_drop, Nat.add_zero]
          exact hm2
        obtain ⟨e0, e1, e2⟩ := seg_msg HOr.out hat
        have hglr : g < wr.heap.size := by omega
        have hB2 := (Below.refl wr.heap.size wr).alloc (Nat.le_refl _) (.cells #[.int .i64 m2.src, .int .i64 m2.dst, .string m2.s] 68)
        have hcb : wr.cell? ⟨bx, 0, none⟩ = some (.int .i64 node) := HGr.out.cell HB.out (by simp; exact fun e => hgb e.symm)
        have CH := Lib.hid (hits_calls node m2 bx _ ((hB2.cell (p := ⟨bx, 0, none⟩) (by show bx < _; omega)).trans hcb) (Nat.lt_of_lt_of_le (show bx < wr.heap.size by omega) hB2.size))
        have htk2 : (ms.take (j + 1)).filter (keeps node) = kept ++ (if keeps node m2 = true then [m2] else []) := by
          rw [List.take_succ_eq_append_getElem (by rw [HN.out]; exact hlt), (List.getElem?_eq_some_iff.1 hm2).2, List.filter_append, ← HKP.out]
          cases hkk : keeps node m2 <;> simp [hkk]
        have hdr : ms.drop j = m2 :: ms.drop (j + 1) := by
          rw [List.drop_eq_getElem_cons (by rw [HN.out]; exact hlt), (List.getElem?_eq_some_iff.1 hm2).2]
        have HTK2 := Lib.hid htk2
        have HDR := Lib.hid hdr
        have HB2 := Lib.hid hB2
        have hltI : (j : Int) < (n : Int) := by omega
        clear hat hm2 htk2 hdr hB2 hcb
        cases hh : hits node m2 with
        | true =>
          rw [hh] at CH
          have hkf : keeps node m2 = false := by simp [keeps, hh]
          have HKF := Lib.hid hkf
          clear hh hkf
          go_wp2_with fail
          refine CH.out.mono ?_
          rintro e w2 ⟨rfl, hB3⟩
          have hb23 := HB2.out.trans (hB3.mono HB2.out.size)
          have HO2 := Lib.hid (HOr.out.below hb23)
          have HG2 := Lib.hid (grownBy_trans HGr.out (grown_any hb23 (some g)))
          clear hB3 hb23 CH HB2
          go_wp2_with fail
          go_roundw
          case rel => exact ⟨i, j + 1, kept, mid ++ [m2], rfl, by go_num, by omega, by omega, ⟨by rw [HTK2.out, HKF.out]; simp, HKPL.out, by rw [List.length_append, HML.out]; simp; omega⟩, by
            have := HO2.out
            rw [HDR.out] at this
            simpa [List.append_assoc] using this, HG2.out⟩
          case measure => simp [intOf]; omega
        | false =>
          rw [hh] at CH
          have hkf : keeps node m2 = true := by simp [keeps, hh]
          have HKF := Lib.hid hkf
          clear hh hkf
          go_wp2_with fail
          refine CH.out.mono ?_
          rintro e w2 ⟨rfl, hB3⟩
          have hb23 := HB2.out.trans (hB3.mono HB2.out.size)
          have hO2 := HOr.out.below hb23
          have hG2 := grownBy_trans HGr.out (grown_any hb23 (some g))
          obtain ⟨hS3, hG3⟩ := seg_put HLL.out hO2 (show i < n by omega) m2
          obtain ⟨x, hx⟩ : ∃ x, (kept ++ mid ++ ms.drop j)[i]? = some x := ⟨_, List.getElem?_eq_getElem (by rw [HLL.out]; omega)⟩
          obtain ⟨f0, f1, f2⟩ := flatM_get hx
          obtain ⟨x0, z0⟩ := hO2.cell f0
          obtain ⟨x1, z1⟩ := hO2.cell f1
          obtain ⟨x2, z2⟩ := hO2.cell f2
          have hbox := hB3.cell (p := ⟨wr.heap.size, 0, none⟩) (by simp)
          have hbox1 := hB3.cell (p := ⟨wr.heap.size, 1, none⟩) (by simp)
          have hbox2 := hB3.cell (p := ⟨wr.heap.size, 2, none⟩) (by simp)
          have hset : (kept ++ mid ++ ms.drop j).set i m2 = kept ++ [m2] ++ (mid.tail ++ [m2]) ++ ms.drop (j + 1) := by
            have hml := HML.out
            match mid, hml with
            | [], hml => simp at hml; omega
            | y :: r, _ =>
              rw [HDR.out, List.append_assoc, List.set_append_right _ _ (by rw [HKPL.out]; exact Nat.le_refl _), HKPL.out, Nat.sub_self]
              simp
          rw [hset] at hS3
          have HS3 := Lib.hid hS3
          have HG3 := Lib.hid (grownBy_trans hG2 hG3)
          have hg2 : g < w2.heap.size := by have := hb23.size; omega
          have hne : ¬ g = wr.heap.size := by omega
          rw [← Nat.add_assoc] at x1 x2 z1 z2
          clear hB3 hb23 CH HB2 hO2 hG2 hS3 hG3 hx f0 f1 f2 hset
          go_wp2_with fail
          go_roundw
          case rel => exact ⟨i + 1, j + 1, kept ++ [m2], mid.tail ++ [m2], by go_num, by go_num, by omega, by omega, ⟨by rw [HTK2.out, HKF.out]; simp, by rw [List.length_append, HKPL.out]; rfl, by rw [List.length_append, List.length_tail, HML.out]; simp; omega⟩, HS3.out, HG3.out⟩
          case measure => simp [intOf]; omega
      · obtain rfl : j = n := by omega
        have hin : i < j := hij
        obtain ⟨W2, hcl, hS2, hG2⟩ := cleared HLL.out HOr.out hin HGr.out
        have htake : (kept ++ mid ++ ms.drop j).take i = ms.filter (keeps node) := by
          rw [List.append_assoc, ← HKPL.out, List.take_left, HKP.out, ← HN.out, List.take_length]
        rw [htake] at hS2
        have hil : (ms.filter (keeps node)).length = i := by rw [← htake, List.length_take, HLL.out]; omega
        have HFIN : Hid (DelOut w base (.slice (some ⟨g, o, none⟩) j rc) (ms.filter (keeps node)) (.returned (.slice (some ⟨g, o, none⟩) i rc)) W2) := ⟨_, rfl, by rw [hil]; exact hS2, hG2, rfl⟩
        have HCL := Lib.hid hcl
        have hic : i ≤ rc := by omega
        have hci : ¬ rc = i := by omega
        have hltI : ¬ (j : Int) < (j : Int) := by omega
        clear hcl hS2 hG2 htake hil
        have hcl := fun ty => HCL.out ty
        go_wp2_with fail
        go_ret
        exact HFIN.out

theorem filter_len (node : Int) (ms : List Msg) : (ms.filter (keeps node)).length ≤ ms.length := List.length_filter_le _ _

/-- What Lose leaves. -/
def Lost (w : World) (base p : Nat) (nodes : Int) (node : Int) (ms : List Msg) (e : Ending) (W : World) : Prop :=
  e = .returned (.int .i64 ((ms.length : Int) - ((ms.filter (keeps node)).length : Int))) ∧ Post W base p nodes (ms.filter (keeps node)) ∧ Frm isPost base w W

set_option maxRecDepth 100000 in
set_option maxHeartbeats 4000000 in
theorem lose_calls (base p : Nat) (nodes : Int) (ms : List Msg) (w : World) (h : Post w base p nodes ms) (hbase : base ≤ w.heap.size) (hlen : ms.length ≤ 1000000000) (node : Int) :
    Calls Try.prog 18 #[.pointer (some ⟨p, 0, none⟩), .int .i64 node] w (Lost w base p nodes node ms) := by
  obtain ⟨hbp, rv, h1, hO⟩ := h
  obtain ⟨c0, c1, c2⟩ := h1.cells
  have hp := h1.lt
  obtain ⟨w1, hw1⟩ : ∃ w1, w.alloc (.cells #[.int .i64 node] 3) = w1 := ⟨_, rfl⟩
  have hB1 : Below w.heap.size w w1 := by rw [← hw1]; exact (Below.refl _ _).alloc (Nat.le_refl _) _
  have hx1 : w1.heap[w.heap.size]? = some (.cells #[.int .i64 node] 3 (0, 0)) := by rw [← hw1]; exact heap_alloc_new w _
  have hc1 : w1.cell? ⟨w.heap.size, 0, none⟩ = some (.int .i64 node) := by simp [World.cell?, hx1]
  have hO1 := hO.below hB1
  have h11 : PB w1 p nodes rv := (hB1.block p hp).trans h1
  have hbv : rv.ownBlock ≠ some w.heap.size := fun e => by have := (hO.own _ e).2.1; omega
  have hlt1 : w.heap.size < w1.heap.size := lt_of_at hx1
  have CD := deleteFunc_calls base rv ms node w.heap.size w1 hO1 hlen hc1 hlt1 hbv
  obtain ⟨R, rc, rfl, _⟩ := hO.form
  obtain ⟨n, hn⟩ : ∃ n, ms.length = n := ⟨_, rfl⟩
  obtain ⟨ms', hms'⟩ : ∃ ms', ms.filter (keeps node) = ms' := ⟨_, rfl⟩
  have hle := filter_len node ms
  rw [hn] at c1 CD h11 hO1 hO h1 hlen hle
  have HFr : Hid (Frm isPost base w w1) := Frm.of_below hB1 hbase
  unfold Lost
  rw [hms'] at CD hle ⊢
  rw [hn]
  have HCD := Lib.hid CD
  have HW1 := Lib.hid hw1
  have H11 := Lib.hid h11
  have HO1 := Lib.hid hO1
  have hb1 : base ≤ w1.heap.size := Nat.le_trans hbase hB1.size
  clear CD hw1 h11 hO1 hx1 hc1 hB1 hO h1 hbv hms' hn c2
  go_enter Try.func18, Try.ntmps18
  go_wp2_with fail
  rw [HW1.out]
  refine HCD.out.mono ?_
  rintro e w2 ⟨v', rfl, hS2, hG2, hv'⟩
  have hne := H11.out.ne HO1.out
  have hpb : PB w2 p nodes (.slice R n rc) := (hG2.block p (Nat.lt_of_lt_of_le hp (by have := H11.out.lt; omega)) (fun e => hne e.symm)).trans H11.out
  obtain ⟨k0, k1, k2⟩ := hpb.cells
  have k21 := k2 1
  obtain ⟨A2, c2, rfl, _⟩ := hS2.form
  have hne2 : (Value.slice A2 ms'.length c2).ownBlock ≠ some p := hpb.ne hS2
  have hpost : Post (w2.setCell ⟨p, 1, none⟩ (.slice A2 ms'.length c2)) base p nodes ms' := by
    refine ⟨hbp, .slice A2 ms'.length c2, ?_, hS2.keep fun g hg => Below.heap_setCell _ _ _ _ (fun e => hne2 (by rw [hg]; exact congrArg some e))⟩
    have := heap_set hpb 1 (.slice A2 ms'.length c2)
    exact this.trans (by simp)
  have hfr : Frm isPost base w (w2.setCell ⟨p, 1, none⟩ (.slice A2 ms'.length c2)) := (HFr.out.grown_seg hG2 HO1.out (by decide) (Nat.le_refl _) hb1).set hpb (by decide) hbp (Nat.le_trans hb1 hG2.size) _
  have HP := Lib.hid hpost
  have HF := Lib.hid hfr
  have hp2 : p < w2.heap.size := hpb.lt
  obtain ⟨n', hn'⟩ : ∃ n', ms'.length = n' := ⟨_, rfl⟩
  have HNN := Lib.hid hn'
  rw [hn'] at HP HF hle ⊢
  clear hS2 hG2 hv' hne hne2 hpb hpost hfr k2 HCD HO1 hn'
  go_wp2_with fail
  go_ret
  exact ⟨by rw [HNN.out]; rfl, by have := HP.out; exact this, by have := HF.out; exact this⟩

end Go.Proofs.Ytjcgkjjomiapoaa.Mail
