/-
  Put together out of texts of one chain: what they hold stands ahead of each.
-/
import Derived.Test.YtdikmlnpclklnaaDoorGSlotNames09
import Derived.Deep.RegionWith
/-
  Contracts of Next, the project's and the document's own: the payload of the frame at a place, in new memory, the place behind it, or the error.
-/
namespace Go.Proofs.YtdikmlnpclklnaaDoor.Frame
open Go.RowKit Go.Shelf Go.Proofs.YtdikmlnpclklnaaDoor.Law Go.Proofs.YtdikmlnpclklnaaDoor.Crc

theorem Bytes.piece {n b off len cap : Nat} {W : World} {bs : List Nat} (h : Bytes n W (.slice (some ⟨b, off, none⟩) len cap) bs) (lo l cap' : Nat) (hl : lo + l ≤ len) (hc : l ≤ cap') :
    Bytes n W (.slice (some ⟨b, off + lo, none⟩) l cap') ((bs.drop lo).take l) := by
  obtain ⟨A', c', e, h1, h2, h3, h4⟩ := h
  simp only [Value.slice.injEq] at e
  obtain ⟨rfl, rfl, rfl⟩ := e
  have hlen : ((bs.drop lo).take l).length = l := by rw [List.length_take, List.length_drop]; omega
  refine ⟨_, cap', by rw [hlen], by rw [hlen]; exact hc, (fun h => by cases h), fun x hx => h3 x (List.mem_of_mem_drop (List.mem_of_mem_take hx)), fun hp => ?_⟩
  rw [hlen] at hp
  obtain ⟨b', off', e', hb, hcell⟩ := h4 (by omega)
  simp only [Option.some.injEq, Addr.mk.injEq, and_true] at e'
  obtain ⟨rfl, rfl⟩ := e'
  refine ⟨b, off + lo, rfl, hb, fun j hj => ?_⟩
  rw [hlen] at hj
  rw [Nat.add_assoc, hcell _ (by omega), getD_piece, if_pos hj]

/-- Contracts from a world on in which nothing below has turned. -/
theorem num_from (w : World) {sv : Value} {bs : List Nat} (h4 : 4 ≤ bs.length) (hreach : bs.length ≤ 140737488351232) (hI : Bytes w.heap.size w sv bs) (W : World) (hB : Below w.heap.size w W) :
    Calls Tryd.prog 64 #[sv] W fun e W' => e = .returned (.int .u32 (num4 bs : Nat)) ∧ Below w.heap.size w W' :=
  (num_calls sv bs h4 hreach W (hI.on hB)).mono fun _ _ ⟨he, hb⟩ => ⟨he, hB.trans (hb.mono hB.size)⟩
theorem sum_from' (w : World) (hT : Tab w) {sv : Value} {bs : List Nat} (hreach : bs.length ≤ 140737488351232) (hI : Bytes w.heap.size w sv bs) (W : World) (hB : Below w.heap.size w W) :
    Calls Tryd.prog 54 #[sv] W fun e W' => e = .returned (.int .u32 (extN 0 bs : Nat)) ∧ Below w.heap.size w W' :=
  (sum_calls sv bs hreach W (hT.below hB) (hI.on hB)).mono fun _ _ ⟨he, hb⟩ => ⟨he, hB.trans (hb.mono hB.size)⟩

/-- What is read ahead of a payload: its length, or the error. -/
def headN (r : List Nat) : Nat × Nat :=
  if r.length < 8 then (0, 5) else if num4 (r.drop 4) ≠ extN 0 (r.take 4) then (0, 4) else if 65536 < num4 r then (0, 2) else (num4 r, 0)

theorem readN_head_err {r : List Nat} (at0 : Nat) (h : (headN r).2 ≠ 0) : readN r at0 = ([], 0, (headN r).2) := by
  unfold headN at h ⊢
  unfold readN
  split
  · rfl
  · split
    · rfl
    · split
      · rfl
      · rename_i h1 h2 h3
        rw [if_neg h1, if_neg h2, if_neg h3] at h
        exact absurd rfl h
theorem headN_ok {r : List Nat} (h : (headN r).2 = 0) : headN r = (num4 r, 0) ∧ 8 ≤ r.length ∧ num4 (r.drop 4) = extN 0 (r.take 4) ∧ num4 r ≤ 65536 := by
  unfold headN at h ⊢
  by_cases h1 : r.length < 8
  · rw [if_pos h1] at h; cases h
  · by_cases h2 : num4 (r.drop 4) = extN 0 (r.take 4)
    · by_cases h3 : 65536 < num4 r
      · rw [if_neg h1, if_neg (by simpa using h2), if_pos h3] at h; cases h
      · rw [if_neg h1, if_neg (by simpa using h2), if_neg h3]
        exact ⟨rfl, by omega, h2, by omega⟩
    · rw [if_neg h1, if_pos h2] at h; cases h

def Two (w : World) (n m : Nat) (e : Ending) (W : World) : Prop := e = .returned (.tuple #[.int .i64 (n : Nat), .int .i64 (m : Nat)]) ∧ Below w.heap.size w W

set_option maxRecDepth 100000 in
set_option maxHeartbeats 4000000 in
theorem payloadLen_calls (sv : Value) (bs : List Nat) (hreach : bs.length ≤ 140737488351232) (w : World) (hT : Tab w) (hI : Bytes w.heap.size w sv bs) :
    Calls Tryd.prog 63 #[sv] w (Two w (headN bs).1 (headN bs).2) := by
  obtain ⟨A, cap, rfl⟩ := hI.form
  by_cases h8 : bs.length < 8
  · have hh : headN bs = (0, 5) := by unfold headN; rw [if_pos h8]
    rw [hh]
    obtain ⟨len, hlen⟩ : ∃ len, bs.length = len := ⟨_, rfl⟩
    rw [hlen] at h8 ⊢
    have h8I : (len : Int) < 8 := by omega
    clear hh hI hlen hreach hT h8
    go_enter Tryd.func63, Tryd.ntmps63
    go_wp2
    go_ret2
    exact ⟨rfl, Below.refl _ _⟩
  · obtain ⟨b, off, rfl, hb, -⟩ := hI.cells (by omega)
    have hcap := hI.capOk
    have p1 := Bytes.piece hI 4 (bs.length - 4) (cap - 4) (by omega) (by omega)
    have p2 := Bytes.piece hI 0 4 cap (by omega) (by omega)
    rw [List.take_of_length_le (by rw [List.length_drop]; omega)] at p1
    rw [List.drop_zero, Nat.add_zero] at p2
    have l1 : (bs.drop 4).length = bs.length - 4 := List.length_drop
    have l2 : (bs.take 4).length = 4 := by rw [List.length_take]; omega
    have c1 := num_from w (by omega) (by omega) p1
    have c2 := sum_from' w hT (by omega) p2
    have c3 := num_from w (by omega) hreach hI
    have n3 := num4_lt hI.lt
    have hh : headN bs = if num4 (bs.drop 4) ≠ extN 0 (bs.take 4) then (0, 4) else if 65536 < num4 bs then (0, 2) else (num4 bs, 0) := by unfold headN; rw [if_neg h8]
    obtain ⟨N2, e1⟩ : ∃ N, num4 (bs.drop 4) = N := ⟨_, rfl⟩
    obtain ⟨S1, e2⟩ : ∃ N, extN 0 (bs.take 4) = N := ⟨_, rfl⟩
    obtain ⟨N, e3⟩ : ∃ N, num4 bs = N := ⟨_, rfl⟩
    rw [e1] at c1 hh
    rw [e2] at c2 hh
    rw [e3] at c3 hh n3
    obtain ⟨len, hlen⟩ : ∃ len, bs.length = len := ⟨_, rfl⟩
    rw [hlen] at h8 hcap hreach c1 c3 ⊢
    have C1 := Lib.hid c1
    have C2 := Lib.hid c2
    have C3 := Lib.hid c3
    have hx0 : ¬ cap = 0 := by omega
    have hx4 : ¬ cap = 4 := by omega
    have hcapI : (len : Int) ≤ (cap : Int) := by omega
    have h8I : 8 ≤ (len : Int) := by omega
    have h4I : 4 ≤ (len : Int) := by omega
    have h8J : 8 ≤ (cap : Int) := by omega
    have h4J : 4 ≤ (cap : Int) := by omega
    clear hT hI p1 p2 l1 l2 c1 c2 c3 e1 e2 e3 hlen
    by_cases hne : N2 = S1
    · subst hne
      rw [if_neg (by simp)] at hh
      by_cases hbig : 65536 < N
      · rw [if_pos hbig] at hh
        rw [hh]
        have hbI : 65536 < (N : Int) := by omega
        clear hh hbig
        go_enter Tryd.func63, Tryd.ntmps63
        go_wp2
        go_region_with ((first | (go_at_call 64; ((with_reducible refine (C1.out _ ?_).mono ?_); (first | assumption | exact (Below.refl _ _).drew | exact Below.drew (by assumption)))) | (go_at_call 54; ((with_reducible refine (C2.out _ ?_).mono ?_); (first | assumption | exact (Below.refl _ _).drew | exact Below.drew (by assumption))))); rintro e w' ⟨rfl, hB'⟩)
        all_goals
          go_wp2_with fail
          refine (C3.out _ (by assumption)).mono ?_
          rintro e w3 ⟨rfl, hB3⟩
          go_wp2
          go_ret2
          exact ⟨rfl, hB3⟩
      · rw [if_neg hbig] at hh
        rw [hh]
        have hbI : (N : Int) ≤ 65536 := by omega
        clear hh hbig
        go_enter Tryd.func63, Tryd.ntmps63
        go_wp2
        go_region_with ((first | (go_at_call 64; ((with_reducible refine (C1.out _ ?_).mono ?_); (first | assumption | exact (Below.refl _ _).drew | exact Below.drew (by assumption)))) | (go_at_call 54; ((with_reducible refine (C2.out _ ?_).mono ?_); (first | assumption | exact (Below.refl _ _).drew | exact Below.drew (by assumption))))); rintro e w' ⟨rfl, hB'⟩)
        all_goals
          go_wp2_with fail
          refine (C3.out _ (by assumption)).mono ?_
          rintro e w3 ⟨rfl, hB3⟩
          go_wp2
          go_ret2
          exact ⟨rfl, hB3⟩
    · rw [if_pos hne] at hh
      rw [hh]
      have ht1 : ((N2 : Int) == (S1 : Int)) = false := by rw [beq_eq_false_iff_ne]; omega
      have ht2 : ((N2 : Int) != (S1 : Int)) = true := by rw [bne_iff_ne]; omega
      clear hh hne
      go_enter Tryd.func63, Tryd.ntmps63
      go_wp2
      go_region_with ((first | (go_at_call 64; ((with_reducible refine (C1.out _ ?_).mono ?_); (first | assumption | exact (Below.refl _ _).drew | exact Below.drew (by assumption)))) | (go_at_call 54; ((with_reducible refine (C2.out _ ?_).mono ?_); (first | assumption | exact (Below.refl _ _).drew | exact Below.drew (by assumption))))); rintro e w' ⟨rfl, hB'⟩)
      all_goals
        go_wp2
        go_ret2
        exact ⟨rfl, by assumption⟩

end Go.Proofs.YtdikmlnpclklnaaDoor.Frame

/-
  Contracts of Next, the project's: the payload of the frame at a place, in new memory, the place behind it, or the error.
-/
namespace Go.Proofs.YtdikmlnpclklnaaDoor.Frame
open Go.RowKit Go.Shelf Go.Proofs.YtdikmlnpclklnaaDoor.Law Go.Proofs.YtdikmlnpclklnaaDoor.Crc

/-- Bytes of the call's own, a place and an error. -/
def Owned3 (base : Nat) (w : World) (r : List Nat × Nat × Nat) (e : Ending) (W : World) : Prop := ∃ v, e = .returned (.tuple #[v, .int .i64 (r.2.1 : Nat), .int .i64 (r.2.2 : Nat)]) ∧ OwnB W base 5 v r.1 ∧ Below base w W

theorem ret3_eq {v c : Value} {a b : Int} (h : a = b) : Ending.returned (.tuple #[v, .int .i64 a, c]) = .returned (.tuple #[v, .int .i64 b, c]) := by rw [h]

set_option maxRecDepth 100000 in
set_option maxHeartbeats 4000000 in
theorem next_bad (sv : Value) (bs : List Nat) (z : Int) (hz : z < 0 ∨ (bs.length : Int) < z) (w : World) (hI : Bytes w.heap.size w sv bs) :
    Calls Tryd.prog 48 #[sv, .int .i64 z] w (Owned3 w.heap.size w ([], 0, 1)) := by
  obtain ⟨A, cap, rfl⟩ := hI.form
  obtain ⟨len, hlen⟩ : ∃ len, bs.length = len := ⟨_, rfl⟩
  rw [hlen] at hz ⊢
  clear hI hlen
  by_cases h0 : z < 0
  · clear hz
    go_enter Tryd.func48, Tryd.ntmps48
    go_wp2
    go_ret3
    exact ⟨_, rfl, ownB_nil _ _ _, Below.refl _ _⟩
  · have hz1 : (len : Int) < z := by omega
    have h01 : 0 ≤ z := by omega
    clear hz h0
    go_enter Tryd.func48, Tryd.ntmps48
    go_wp2
    go_ret3
    exact ⟨_, rfl, ownB_nil _ _ _, Below.refl _ _⟩

set_option maxRecDepth 100000 in
set_option maxHeartbeats 4000000 in
theorem next_at (sv : Value) (bs : List Nat) (hreach : bs.length ≤ 140737488351232) (k : Nat) (hk : k ≤ bs.length) (w : World) (hT : Tab w) (hI : Bytes w.heap.size w sv bs) :
    Calls Tryd.prog 48 #[sv, .int .i64 (k : Nat)] w (Owned3 w.heap.size w (nextN bs k)) := by
  obtain ⟨A, cap, rfl⟩ := hI.form
  have hcap := hI.capOk
  by_cases hke : k = bs.length
  · have hn : nextN bs k = ([], 0, 5) := by
      unfold nextN; rw [hke, List.drop_length]; exact readN_end1 (by simp)
    rw [hn]
    have hh : headN ([] : List Nat) = (0, 5) := by unfold headN; rw [if_pos (by simp)]
    have c1 := fun (A' : Option Addr) (c' : Nat) (hA : A' = none → c' = 0) => payloadLen_calls (.slice A' 0 c') [] (by simp) w hT ⟨A', c', rfl, by simp, hA, by simp, by simp⟩
    rw [hh] at c1
    have hA : A = none → cap = 0 := by
      obtain ⟨A', c', e, _, h2, _⟩ := hI
      simp only [Value.slice.injEq] at e
      obtain ⟨rfl, -, rfl⟩ := e
      exact h2
    obtain ⟨len, hlen⟩ : ∃ len, bs.length = len := ⟨_, rfl⟩
    rw [hlen] at hcap hreach hke ⊢
    subst hke
    have C1 := Lib.hid c1
    have HA := Lib.hid hA
    clear c1 hA hI hT hlen hk hn hh
    by_cases hc : cap = k
    · subst hc
      have d1 := C1.out A 0 (fun _ => rfl)
      have D1 := Lib.hid d1
      clear d1
      go_enter Tryd.func48, Tryd.ntmps48
      go_wp2_with fail
      refine D1.out.mono ?_
      rintro e w1 ⟨rfl, hB1⟩
      go_wp2
      go_ret3
      exact ⟨_, rfl, ownB_nil _ _ _, hB1⟩
    · have hlt : k < cap := by omega
      cases A with
      | none => exact absurd (HA.out rfl) (by omega)
      | some a =>
        obtain ⟨m, hm⟩ : ∃ m, cap - k = m := ⟨_, rfl⟩
        have d1 := C1.out (some (a.add k)) m (fun h => by cases h)
        have D1 := Lib.hid d1
        clear d1
        go_enter Tryd.func48, Tryd.ntmps48
        go_wp2_with fail
        refine D1.out.mono ?_
        rintro e w1 ⟨rfl, hB1⟩
        go_wp2
        go_ret3
        exact ⟨_, rfl, ownB_nil _ _ _, hB1⟩
  · have hlt : k < bs.length := by omega
    obtain ⟨b, off, rfl, hb, -⟩ := hI.cells (by omega)
    have p0 := Bytes.piece hI k (bs.length - k) (cap - k) (by omega) (by omega)
    rw [List.take_of_length_le (by rw [List.length_drop]; omega)] at p0
    have hrl : (bs.drop k).length = bs.length - k := List.length_drop
    obtain ⟨r, hr⟩ : ∃ r, bs.drop k = r := ⟨_, rfl⟩
    have hn : nextN bs k = readN r k := by unfold nextN; rw [hr]
    rw [hn]
    rw [hr] at p0 hrl
    obtain ⟨len, hlen⟩ : ∃ len, bs.length = len := ⟨_, rfl⟩
    rw [hlen] at p0 hrl hlt hcap hreach ⊢
    obtain ⟨L, hL⟩ : ∃ L, len - k = L := ⟨_, rfl⟩
    obtain ⟨C, hC⟩ : ∃ C, cap - k = C := ⟨_, rfl⟩
    rw [hL] at p0 hrl
    rw [hC] at p0
    have hLC : L ≤ C := by omega
    have hLb : L ≤ 140737488351232 := by omega
    have hkI : (k : Int) ≤ (len : Int) := by omega
    have hkc : ¬ cap = k := by omega
    have hkn : (k : Int) ≤ 140737488351232 := by omega
    have c1 := payloadLen_calls _ r (by omega) w hT p0
    have HLk := Lib.hid (show k + L ≤ 140737488351232 by omega)
    clear hI hn hke hk hr hlen hlt hreach hcap
    by_cases herr : (headN r).2 = 0
    · obtain ⟨hh, h8, hs1, hnb⟩ := headN_ok herr
      rw [hh] at c1
      obtain ⟨n, hnn⟩ : ∃ n, num4 r = n := ⟨_, rfl⟩
      have hcases : readN r k = if L < n + 12 then ([], 0, 5) else if num4 (r.drop (8 + n)) ≠ extN 0 ((r.drop 8).take n) then ([], 0, 4) else ((r.drop 8).take n, k + 12 + n, 0) := by
        unfold readN
        rw [if_neg (by omega), if_neg (by simpa using hs1), if_neg (by omega), hnn, hrl]
      rw [hcases]
      rw [hnn] at c1 hnb
      have C1 := Lib.hid c1
      clear c1 hh herr hs1 hnn hcases
      by_cases hshort : L < n + 12
      · rw [if_pos hshort]
        have hsI : (L : Int) < (n : Int) + 12 := by omega
        go_enter Tryd.func48, Tryd.ntmps48
        go_wp2_with fail
        refine C1.out.mono ?_
        rintro e w1 ⟨rfl, hB1⟩
        go_wp2_with fail
        refine (frameLen_calls n (by omega) w1).mono ?_
        rintro e w1' ⟨rfl, rfl⟩
        go_wp2
        go_ret3
        exact ⟨_, rfl, ownB_nil _ _ _, hB1⟩
      · rw [if_neg hshort]
        have p1 := Bytes.piece p0 8 n (C - 8) (by omega) (by omega)
        have p2 := Bytes.piece p0 (8 + n) (L - (8 + n)) (C - (8 + n)) (by omega) (by omega)
        rw [List.take_of_length_le (by rw [List.length_drop]; omega)] at p2
        have lp1 : ((r.drop 8).take n).length = n := by rw [List.length_take, List.length_drop]; omega
        have lp2 : (r.drop (8 + n)).length = L - (8 + n) := by rw [List.length_drop]; omega
        have c2 := num_from w (by omega) (by omega) p2
        have c3 := sum_from' w hT (by omega) p1
        obtain ⟨p, hp⟩ : ∃ p, (r.drop 8).take n = p := ⟨_, rfl⟩
        rw [hp] at lp1 c3 p1 ⊢
        obtain ⟨N2, e2⟩ : ∃ N, num4 (r.drop (8 + n)) = N := ⟨_, rfl⟩
        obtain ⟨S2, e3⟩ : ∃ N, extN 0 p = N := ⟨_, rfl⟩
        rw [e2] at c2 ⊢
        rw [e3] at c3 ⊢
        have C2 := Lib.hid c2
        have C3 := Lib.hid c3
        have P1 := Lib.hid p1
        have LP := Lib.hid lp1
        have hsI : (n : Int) + 12 ≤ (L : Int) := by omega
        have hC8 : ¬ C = 8 := by omega
        have h8n : 8 + n - 8 = n := by omega
        have hC8n : ¬ C = 8 + n := by omega
        have hLCI : (L : Int) ≤ (C : Int) := by omega
        have hlongn : (n : Int) ≤ 65536 := by omega
        clear p0 p1 p2 lp1 lp2 c2 c3 e2 e3 hp hT hshort hrl
        by_cases hne : N2 = S2
        · subst hne
          rw [if_neg (by simp)]
          go_enter Tryd.func48, Tryd.ntmps48
          go_wp2_with fail
          refine C1.out.mono ?_
          rintro e w1 ⟨rfl, hB1⟩
          go_wp2_with fail
          refine (frameLen_calls n (by omega) w1).mono ?_
          rintro e w1' ⟨rfl, rfl⟩
          go_wp2_with fail
          refine (C2.out w1 hB1).mono ?_
          rintro e w2 ⟨rfl, hB2⟩
          clear hB1
          go_wp2_with fail
          refine (C3.out w2 hB2).mono ?_
          rintro e w3 ⟨rfl, hB3⟩
          clear hB2
          go_wp2_with fail
          refine (clone_calls _ p (by rw [LP.out]; omega) w3 (P1.out.on hB3)).mono ?_
          rintro e w4 ⟨v4, rfl, O4, B4⟩
          go_wp2_with fail
          refine (frameLen_calls n (by omega) w4).mono ?_
          rintro e w4' ⟨rfl, rfl⟩
          have O5 := O4.lower hB3.size
          have hB4 := hB3.trans (B4.mono hB3.size)
          clear O4 hB3 B4
          go_wp2
          go_ret3
          exact ⟨v4, ret3_eq (show (k : Int) + ((n : Int) + 12) = ((k + 12 + n : Nat) : Int) by omega), O5, hB4⟩
        · rw [if_pos hne]
          have ht1 : ((N2 : Int) == (S2 : Int)) = false := by rw [beq_eq_false_iff_ne]; omega
          have ht2 : ((N2 : Int) != (S2 : Int)) = true := by rw [bne_iff_ne]; omega
          clear hne
          go_enter Tryd.func48, Tryd.ntmps48
          go_wp2_with fail
          refine C1.out.mono ?_
          rintro e w1 ⟨rfl, hB1⟩
          go_wp2_with fail
          refine (frameLen_calls n (by omega) w1).mono ?_
          rintro e w1' ⟨rfl, rfl⟩
          go_wp2_with fail
          refine (C2.out w1 hB1).mono ?_
          rintro e w2 ⟨rfl, hB2⟩
          clear hB1
          go_wp2_with fail
          refine (C3.out w2 hB2).mono ?_
          rintro e w3 ⟨rfl, hB3⟩
          clear hB2
          go_wp2
          go_ret3
          exact ⟨_, rfl, ownB_nil _ _ _, hB3⟩
    · rw [readN_head_err k herr]
      obtain ⟨E, hE⟩ : ∃ E, (headN r).2 = E := ⟨_, rfl⟩
      rw [hE] at c1 herr ⊢
      have hEI : ((E : Int) == 0) = false := by rw [beq_eq_false_iff_ne]; omega
      have hEJ : ((E : Int) != 0) = true := by rw [bne_iff_ne]; omega
      have C1 := Lib.hid c1
      clear c1 hE herr p0 hrl
      go_enter Tryd.func48, Tryd.ntmps48
      go_wp2_with fail
      refine C1.out.mono ?_
      rintro e w1 ⟨rfl, hB1⟩
      go_wp2
      go_ret3
      exact ⟨_, rfl, ownB_nil _ _ _, hB1⟩

end Go.Proofs.YtdikmlnpclklnaaDoor.Frame
