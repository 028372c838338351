/-
  Put together out of texts of one chain: what they hold stands ahead of each.
-/
import Derived.Test.YtdikmlnpclklnaaGreatDoorGSlotScripts09
import Derived.Deep.DeepCutAuto
/-
  Contracts of Next, the project's: the payload of the frame at a place, in new memory, the place behind it, or the error.
-/
namespace Go.Proofs.YtdikmlnpclklnaaGreatDoor.Frame
open Go.RowKit Go.Shelf Go.Proofs.YtdikmlnpclklnaaGreatDoor.Law Go.Proofs.YtdikmlnpclklnaaGreatDoor.Crc

/-- Bytes of the call's own, a place and an error. -/
def Owned3 (base : Nat) (w : World) (r : List Nat × Nat × Nat) (e : Ending) (W : World) : Prop := ∃ v, e = .returned (.tuple #[v, .int .i64 (r.2.1 : Nat), .int .i64 (r.2.2 : Nat)]) ∧ OwnB W base 5 v r.1 ∧ Below base w W

theorem ret3_eq {v c : Value} {a b : Int} (h : a = b) : Ending.returned (.tuple #[v, .int .i64 a, c]) = .returned (.tuple #[v, .int .i64 b, c]) := by rw [h]

set_option maxRecDepth 100000 in
set_option maxHeartbeats 4000000 in
theorem next_bad (sv : Value) (bs : List Nat) (z : Int) (hz : z < 0 ∨ (bs.length : Int) < z) (w : World) (hI : Bytes w.heap.size w sv bs) :
    Calls Tryz.prog 104 #[sv, .int .i64 z] w (Owned3 w.heap.size w ([], 0, 1)) := by
  obtain ⟨A, cap, rfl⟩ := hI.form
  obtain ⟨len, hlen⟩ : ∃ len, bs.length = len := ⟨_, rfl⟩
  rw [hlen] at hz ⊢
  clear hI hlen
  by_cases h0 : z < 0
  · clear hz
    go_enter Tryz.func104, Tryz.ntmps104
    go_wp2
    go_ret3
    exact ⟨_, rfl, ownB_nil _ _ _, Below.refl _ _⟩
  · have hz1 : (len : Int) < z := by omega
    have h01 : 0 ≤ z := by omega
    clear hz h0
    go_enter Tryz.func104, Tryz.ntmps104
    go_wp2
    go_ret3
    exact ⟨_, rfl, ownB_nil _ _ _, Below.refl _ _⟩

set_option maxRecDepth 100000 in
set_option maxHeartbeats 4000000 in
theorem next_at (sv : Value) (bs : List Nat) (hreach : bs.length ≤ 140737488351232) (k : Nat) (hk : k ≤ bs.length) (w : World) (hT : Tab w) (hI : Bytes w.heap.size w sv bs) :
    Calls Tryz.prog 104 #[sv, .int .i64 (k : Nat)] w (Owned3 w.heap.size w (nextN bs k)) := by
  obtain ⟨A, cap, rfl⟩ := hI.form
  have hcap := hI.capOk
  by_cases hke : k = bs.length
  · have hn : nextN bs k = ([], 0, 5) := by
      unfold nextN; rw [hke, List.drop_length]; exact readN_end1 (by simp)
    rw [hn]
    have hh : headN ([] : List Nat) = (0, 5) := by unfold headN; rw [if_pos (by simp)]
    have c1 := fun (A' : Option Addr) (c' : Nat) (hA : A' = none → c' = 0) => payloadLen_calls (.slice A' 0 c') [] (by simp) w hT ⟨A', c', rfl, by simp, hA, by simp, by simp⟩
    rw [hh] at c1
    have hA : A = none → cap = 0 := by
      obtain ⟨A', c', e, _, h2, _⟩ := hI
      simp only [Value.slice.injEq] at e
      obtain ⟨rfl, -, rfl⟩ := e
      exact h2
    obtain ⟨len, hlen⟩ : ∃ len, bs.length = len := ⟨_, rfl⟩
    rw [hlen] at hcap hreach hke ⊢
    subst hke
    have C1 := Lib.hid c1
    have HA := Lib.hid hA
    clear c1 hA hI hT hlen hk hn hh
    by_cases hc : cap = k
    · subst hc
      have d1 := C1.out A 0 (fun _ => rfl)
      have D1 := Lib.hid d1
      clear d1
      go_enter Tryz.func104, Tryz.ntmps104
      go_wp2_with fail
      refine D1.out.mono ?_
      rintro e w1 ⟨rfl, hB1⟩
      go_wp2
      go_ret3
      exact ⟨_, rfl, ownB_nil _ _ _, hB1⟩
    · have hlt : k < cap := by omega
      cases A with
      | none => exact absurd (HA.out rfl) (by omega)
      | some a =>
        obtain ⟨m, hm⟩ : ∃ m, cap - k = m := ⟨_, rfl⟩
        have d1 := C1.out (some (a.add k)) m (fun h => by cases h)
        have D1 := Lib.hid d1
        clear d1
        go_enter Tryz.func104, Tryz.ntmps104
        go_wp2_with fail
        refine D1.out.mono ?_
        rintro e w1 ⟨rfl, hB1⟩
        go_wp2
        go_ret3
        exact ⟨_, rfl, ownB_nil _ _ _, hB1⟩
  · have hlt : k < bs.length := by omega
    obtain ⟨b, off, rfl, hb, -⟩ := hI.cells (by omega)
    have p0 := Bytes.piece hI k (bs.length - k) (cap - k) (by omega) (by omega)
    rw [List.take_of_length_le (by rw [List.length_drop]; omega)] at p0
    have hrl : (bs.drop k).length = bs.length - k := List.length_drop
    obtain ⟨r, hr⟩ : ∃ r, bs.drop k = r := ⟨_, rfl⟩
    have hn : nextN bs k = readN r k := by unfold nextN; rw [hr]
    rw [hn]
    rw [hr] at p0 hrl
    obtain ⟨len, hlen⟩ : ∃ len, bs.length = len := ⟨_, rfl⟩
    rw [hlen] at p0 hrl hlt hcap hreach ⊢
    obtain ⟨L, hL⟩ : ∃ L, len - k = L := ⟨_, rfl⟩
    obtain ⟨C, hC⟩ : ∃ C, cap - k = C := ⟨_, rfl⟩
    rw [hL] at p0 hrl
    rw [hC] at p0
    have hLC : L ≤ C := by omega
    have hLb : L ≤ 140737488351232 := by omega
    have hkI : (k : Int) ≤ (len : Int) := by omega
    have hkc : ¬ cap = k := by omega
    have hkn : (k : Int) ≤ 140737488351232 := by omega
    have c1 := payloadLen_calls _ r (by omega) w hT p0
    have HLk := Lib.hid (show k + L ≤ 140737488351232 by omega)
    clear hI hn hke hk hr hlen hlt hreach hcap
    by_cases herr : (headN r).2 = 0
    · obtain ⟨hh, h8, hs1, hnb⟩ := headN_ok herr
      rw [hh] at c1
      obtain ⟨n, hnn⟩ : ∃ n, num4 r = n := ⟨_, rfl⟩
      have hcases : readN r k = if L < n + 12 then ([], 0, 5) else if num4 (r.drop (8 + n)) ≠ extN 0 ((r.drop 8).take n) then ([], 0, 4) else ((r.drop 8).take n, k + 12 + n, 0) := by
        unfold readN
        rw [if_neg (by omega), if_neg (by simpa using hs1), if_neg (by omega), hnn, hrl]
      rw [hcases]
      rw [hnn] at c1 hnb
      have C1 := Lib.hid c1
      clear c1 hh herr hs1 hnn hcases
      by_cases hshort : L < n + 12
      · rw [if_pos hshort]
        have hsI : (L : Int) < (n : Int) + 12 := by omega
        go_enter Tryz.func104, Tryz.ntmps104
        go_wp2_with fail
        refine C1.out.mono ?_
        rintro e w1 ⟨rfl, hB1⟩
        go_wp2_with fail
        refine (frameLen_calls n (by omega) w1).mono ?_
        rintro e w1' ⟨rfl, rfl⟩
        go_wp2
        go_ret3
        exact ⟨_, rfl, ownB_nil _ _ _, hB1⟩
      · rw [if_neg hshort]
        have p1 := Bytes.piece p0 8 n (C - 8) (by omega) (by omega)
        have p2 := Bytes.piece p0 (8 + n) (L - (8 + n)) (C - (8 + n)) (by omega) (by omega)
        rw [List.take_of_length_le (by rw [List.length_drop]; omega)] at p2
        have lp1 : ((r.drop 8).take n).length = n := by rw [List.length_take, List.length_drop]; omega
        have lp2 : (r.drop (8 + n)).length = L - (8 + n) := by rw [List.length_drop]; omega
        have c2 := num_from w (by omega) (by omega) p2
        have c3 := sum_from' w hT (by omega) p1
        obtain ⟨p, hp⟩ : ∃ p, (r.drop 8).take n = p := ⟨_, rfl⟩
        rw [hp] at lp1 c3 p1 ⊢
        obtain ⟨N2, e2⟩ : ∃ N, num4 (r.drop (8 + n)) = N := ⟨_, rfl⟩
        obtain ⟨S2, e3⟩ : ∃ N, extN 0 p = N := ⟨_, rfl⟩
        rw [e2] at c2 ⊢
        rw [e3] at c3 ⊢
        have C2 := Lib.hid c2
        have C3 := Lib.hid c3
        have P1 := Lib.hid p1
        have LP := Lib.hid lp1
        have hsI : (n : Int) + 12 ≤ (L : Int) := by omega
        have hC8 : ¬ C = 8 := by omega
        have h8n : 8 + n - 8 = n := by omega
        have hC8n : ¬ C = 8 + n := by omega
        have hLCI : (L : Int) ≤ (C : Int) := by omega
        have hlongn : (n : Int) ≤ 65536 := by omega
        clear p0 p1 p2 lp1 lp2 c2 c3 e2 e3 hp hT hshort hrl
        by_cases hne : N2 = S2
        · subst hne
          rw [if_neg (by simp)]
          go_enter Tryz.func104, Tryz.ntmps104
          go_wp2_with fail
          refine C1.out.mono ?_
          rintro e w1 ⟨rfl, hB1⟩
          go_wp2_with fail
          refine (frameLen_calls n (by omega) w1).mono ?_
          rintro e w1' ⟨rfl, rfl⟩
          go_wp2_with fail
          refine (C2.out w1 hB1).mono ?_
          rintro e w2 ⟨rfl, hB2⟩
          clear hB1
          go_wp2_with fail
          refine (C3.out w2 hB2).mono ?_
          rintro e w3 ⟨rfl, hB3⟩
          clear hB2
          go_wp2_with fail
          refine (clone_calls _ p (by rw [LP.out]; omega) w3 (P1.out.on hB3)).mono ?_
          rintro e w4 ⟨v4, rfl, O4, B4⟩
          go_wp2_with fail
          refine (frameLen_calls n (by omega) w4).mono ?_
          rintro e w4' ⟨rfl, rfl⟩
          have O5 := O4.lower hB3.size
          have hB4 := hB3.trans (B4.mono hB3.size)
          clear O4 hB3 B4
          go_wp2
          go_ret3
          exact ⟨v4, ret3_eq (show (k : Int) + ((n : Int) + 12) = ((k + 12 + n : Nat) : Int) by omega), O5, hB4⟩
        · rw [if_pos hne]
          have ht1 : ((N2 : Int) == (S2 : Int)) = false := by rw [beq_eq_false_iff_ne]; omega
          have ht2 : ((N2 : Int) != (S2 : Int)) = true := by rw [bne_iff_ne]; omega
          clear hne
          go_enter Tryz.func104, Tryz.ntmps104
          go_wp2_with fail
          refine C1.out.mono ?_
          rintro e w1 ⟨rfl, hB1⟩
          go_wp2_with fail
          refine (frameLen_calls n (by omega) w1).mono ?_
          rintro e w1' ⟨rfl, rfl⟩
          go_wp2_with fail
          refine (C2.out w1 hB1).mono ?_
          rintro e w2 ⟨rfl, hB2⟩
          clear hB1
          go_wp2_with fail
          refine (C3.out w2 hB2).mono ?_
          rintro e w3 ⟨rfl, hB3⟩
          clear hB2
          go_wp2
          go_ret3
          exact ⟨_, rfl, ownB_nil _ _ _, hB3⟩
    · rw [readN_head_err k herr]
      obtain ⟨E, hE⟩ : ∃ E, (headN r).2 = E := ⟨_, rfl⟩
      rw [hE] at c1 herr ⊢
      have hEI : ((E : Int) == 0) = false := by rw [beq_eq_false_iff_ne]; omega
      have hEJ : ((E : Int) != 0) = true := by rw [bne_iff_ne]; omega
      have C1 := Lib.hid c1
      clear c1 hE herr p0 hrl
      go_enter Tryz.func104, Tryz.ntmps104
      go_wp2_with fail
      refine C1.out.mono ?_
      rintro e w1 ⟨rfl, hB1⟩
      go_wp2
      go_ret3
      exact ⟨_, rfl, ownB_nil _ _ _, hB1⟩

end Go.Proofs.YtdikmlnpclklnaaGreatDoor.Frame

/-
  The chapter's example, which every statement of layer 2 asks for first: true.
-/
namespace Go.Proofs.YtdikmlnpclklnaaGreatDoor.Frame
open Go.RowKit Go.Shelf Go.Proofs.YtdikmlnpclklnaaGreatDoor.Law Go.Proofs.YtdikmlnpclklnaaGreatDoor.Crc

theorem frame_none : frameN [] = [0, 0, 0, 0, 199, 75, 103, 72, 0, 0, 0, 0] := by decide +kernel
theorem next_zeros : nextN (List.replicate 8 0) 0 = ([], 0, 4) := by decide +kernel
theorem str_none : str [0, 0, 0, 0, 199, 75, 103, 72, 0, 0, 0, 0] = { data := #[0, 0, 0, 0, 199, 75, 103, 72, 0, 0, 0, 0] } := by decide +kernel

end Go.Proofs.YtdikmlnpclklnaaGreatDoor.Frame

/-
  Contracts of Next, the document's own answer: the payload of the frame at a place, in new memory, the place behind it, or the error.
-/
namespace Go.Proofs.YtdikmlnpclklnaaGreatDoor.Frame
open Go.RowKit Go.Shelf Go.Proofs.YtdikmlnpclklnaaGreatDoor.Law Go.Proofs.YtdikmlnpclklnaaGreatDoor.Crc

set_option maxRecDepth 100000 in
set_option maxHeartbeats 4000000 in
theorem refnext_bad (sv : Value) (bs : List Nat) (z : Int) (hz : z < 0 ∨ (bs.length : Int) < z) (w : World) (hI : Bytes w.heap.size w sv bs) :
    Calls Tryz.prog 98 #[sv, .int .i64 z] w (Owned3 w.heap.size w ([], 0, 1)) := by
  obtain ⟨A, cap, rfl⟩ := hI.form
  obtain ⟨len, hlen⟩ : ∃ len, bs.length = len := ⟨_, rfl⟩
  rw [hlen] at hz ⊢
  clear hI hlen
  by_cases h0 : z < 0
  · clear hz
    go_enter Tryz.func98, Tryz.ntmps98
    go_wp2
    go_ret3
    exact ⟨_, rfl, ownB_nil _ _ _, Below.refl _ _⟩
  · have hz1 : (len : Int) < z := by omega
    have h01 : 0 ≤ z := by omega
    clear hz h0
    go_enter Tryz.func98, Tryz.ntmps98
    go_wp2
    go_ret3
    exact ⟨_, rfl, ownB_nil _ _ _, Below.refl _ _⟩

theorem head_same {r : List Nat} (h8 : 8 ≤ r.length) (h : ∀ x ∈ r, x < 256) : le4 (extN 0 (r.take 4)) = (r.drop 4).take 4 ↔ num4 (r.drop 4) = extN 0 (r.take 4) := by
  constructor
  · intro e
    have := num4_take (r.drop 4) 4 (Nat.le_refl _)
    rw [← this, ← e, ← List.append_nil (le4 _), num4_le4 _ (extN_lt 0 _ (by decide))]
  · intro e
    rw [← e, le4_num4 (fun x hx => h x (List.mem_of_mem_drop hx)) (by rw [List.length_drop]; omega)]

theorem frame_same {r : List Nat} (n : Nat) (h8 : n + 12 ≤ r.length) (h : ∀ x ∈ r, x < 256) (h1 : num4 (r.drop 4) = extN 0 (r.take 4)) (hn : num4 r = n) :
    frameN ((r.drop 8).take n) = r.take (12 + n) ↔ num4 (r.drop (8 + n)) = extN 0 ((r.drop 8).take n) := by
  have lp : ((r.drop 8).take n).length = n := by rw [List.length_take, List.length_drop]; omega
  have hd : le4 n = r.take 4 := by rw [← hn]; exact le4_num4 h (by omega)
  have hs : le4 (extN 0 (r.take 4)) = (r.drop 4).take 4 := (head_same (by omega) h).2 h1
  have e : r.take (12 + n) = r.take 4 ++ ((r.drop 4).take 4 ++ ((r.drop 8).take n ++ (r.drop (8 + n)).take 4)) := by
    rw [show 12 + n = 4 + (4 + (n + 4)) by omega, List.take_add, List.take_add, List.take_add, List.drop_drop, List.drop_drop]
  have ef : frameN ((r.drop 8).take n) = le4 n ++ (le4 (extN 0 (le4 n)) ++ ((r.drop 8).take n ++ le4 (extN 0 ((r.drop 8).take n)))) := by
    unfold frameN; rw [lp]
  rw [ef, e, hd, hs, List.append_cancel_left_eq, List.append_cancel_left_eq, List.append_cancel_left_eq]
  constructor
  · intro e
    have := num4_take (r.drop (8 + n)) 4 (Nat.le_refl _)
    rw [← this, ← e, ← List.append_nil (le4 _), num4_le4 _ (extN_lt 0 _ (by decide))]
  · intro e
    rw [← e, le4_num4 (fun x hx => h x (List.mem_of_mem_drop hx)) (by rw [List.length_drop]; omega)]

theorem refext_from (w : World) {sv : Value} {bs : List Nat} (hreach : bs.length ≤ 140737488351232) (hI : Bytes w.heap.size w sv bs) (W : World) (hB : Below w.heap.size w W) :
    Calls Tryz.prog 116 #[.int .u32 0, sv] W fun e W' => e = .returned (.int .u32 (extN 0 bs : Nat)) ∧ Below w.heap.size w W' :=
  (refext_calls 0 (by decide) sv bs hreach W (hI.on hB)).mono fun _ _ ⟨he, hb⟩ => ⟨he, by rw [hb]; exact hB⟩
theorem four_from (w : World) (n : Nat) (hn : n < 4294967296) (W : World) (hB : Below w.heap.size w W) :
    Calls Tryz.prog 115 #[.int .u32 (n : Nat)] W fun e W' => ∃ v, e = .returned v ∧ Bytes W'.heap.size W' v (le4 n) ∧ Below w.heap.size w W' :=
  (four_calls n hn W).mono fun _ _ ⟨v, he, hO, hb⟩ => ⟨v, he, hO.bytes, hB.trans (hb.mono hB.size)⟩
theorem same_from (w : World) {sb : Value} {xs bs : List Nat} (hI : Bytes w.heap.size w sb bs) (W : World) (hB : Below w.heap.size w W) (sa : Value) (hA : Bytes W.heap.size W sa xs) :
    Calls Tryz.prog 18 #[sa, sb] W fun e W' => e = .returned (.bool (decide (xs = bs))) ∧ Below w.heap.size w W' :=
  (same_calls sa sb xs bs W hA (hI.on hB)).mono fun _ _ ⟨he, hb⟩ => ⟨he, by rw [hb]; exact hB⟩

theorem same_on (w : World) {sb : Value} {xs bs : List Nat} (hI : Bytes w.heap.size w sb bs) (W : World) (hB : Below w.heap.size w W) (sa : Value) (hA : Bytes W.heap.size W sa xs) :
    Calls Tryz.prog 18 #[sa, sb] W fun e W' => e = .returned (.bool (decide (xs = bs))) ∧ W = W' :=
  (same_calls sa sb xs bs W hA (hI.on hB)).mono fun _ _ ⟨he, hb⟩ => ⟨he, hb.symm⟩
theorem number_from (w : World) {sv : Value} {bs : List Nat} (h4 : 4 ≤ bs.length) (hreach : bs.length ≤ 140737488351232) (hI : Bytes w.heap.size w sv bs) (W : World) (hB : Below w.heap.size w W) :
    Calls Tryz.prog 120 #[sv] W fun e W' => e = .returned (.int .i64 (num4 bs : Nat)) ∧ Below w.heap.size w W' :=
  (number_calls sv bs h4 hreach W (hI.on hB)).mono fun _ _ ⟨he, hb⟩ => ⟨he, hB.trans (hb.mono hB.size)⟩

set_option maxRecDepth 100000 in
set_option maxHeartbeats 8000000 in
theorem refnext_at (sv : Value) (bs : List Nat) (hreach : bs.length ≤ 140737488351232) (k : Nat) (hk : k ≤ bs.length) (w : World) (hI : Bytes w.heap.size w sv bs) :
    Calls Tryz.prog 98 #[sv, .int .i64 (k : Nat)] w (Owned3 w.heap.size w (nextN bs k)) := by
  obtain ⟨i0, hi, hz0, hz1, hz2⟩ := info_parts info_u8'
  obtain ⟨A, cap, rfl⟩ := hI.form
  have hcap := hI.capOk
  by_cases h8 : bs.length - k < 8
  · have hn : nextN bs k = ([], 0, 5) := by
      unfold nextN; exact readN_end1 (by rw [List.length_drop]; exact h8)
    rw [hn]
    obtain ⟨len, hlen⟩ : ∃ len, bs.length = len := ⟨_, rfl⟩
    rw [hlen] at hk h8 hreach ⊢
    have h8I : (len : Int) - (k : Int) < 8 := by omega
    have hkI : (k : Int) ≤ (len : Int) := by omega
    have hk0 : 0 ≤ (len : Int) - (k : Int) := by omega
    clear hI hlen hn hk h8 hcap
    go_enter Tryz.func98, Tryz.ntmps98
    go_wp2
    go_ret3
    exact ⟨_, rfl, ownB_nil _ _ _, Below.refl _ _⟩
  · obtain ⟨b, off, rfl, hb, -⟩ := hI.cells (by omega)
    have q1 := Bytes.piece hI k 4 (cap - k) (by omega) (by omega)
    have q2 := Bytes.piece hI (k + 4) 4 (cap - (k + 4)) (by omega) (by omega)
    rw [← List.drop_drop] at q2
    have hrl : (bs.drop k).length = bs.length - k := List.length_drop
    have hr256 : ∀ x ∈ bs.drop k, x < 256 := fun x hx => hI.lt x (List.mem_of_mem_drop hx)
    obtain ⟨r, hr⟩ : ∃ r, bs.drop k = r := ⟨_, rfl⟩
    have hn : nextN bs k = readN r k := by unfold nextN; rw [hr]
    rw [hn]
    rw [hr] at q1 q2 hrl hr256
    have s1 := extN_lt 0 (r.take 4) (by decide)
    have c1 := refext_from w (by rw [List.length_take]; omega) q1
    have c2 := four_from w _ s1
    have c3 := same_from w (xs := le4 (extN 0 (r.take 4))) q2
    have hhead := head_same (r := r) (by omega) hr256
    have c4 := number_from w (by rw [List.length_take]; omega) (by rw [List.length_take]; omega) q1
    rw [num4_take _ _ (by decide)] at c4
    have n4 := num4_lt hr256
    obtain ⟨n, hnn⟩ : ∃ n, num4 r = n := ⟨_, rfl⟩
    rw [hnn] at c4 n4
    obtain ⟨B, hB⟩ : ∃ B, decide (le4 (extN 0 (r.take 4)) = (r.drop 4).take 4) = B := ⟨_, rfl⟩
    rw [hB] at c3
    have hcases : readN r k = if B = true then (if 65536 < n then ([], 0, 2) else if r.length < n + 12 then ([], 0, 5) else if frameN ((r.drop 8).take n) ≠ r.take (12 + n) then ([], 0, 4) else ((r.drop 8).take n, k + 12 + n, 0)) else ([], 0, 4) := by
      unfold readN
      rw [if_neg (by omega), hnn]
      cases B with
      | false => rw [if_pos (fun h => (of_decide_eq_false hB) (hhead.2 h)), if_neg (show ¬ (false = true) by decide)]
      | true =>
        have hsum := hhead.1 (of_decide_eq_true hB)
        rw [if_neg (by simpa using hsum), if_pos (show true = true from rfl)]
        by_cases h1 : 65536 < n
        · rw [if_pos h1, if_pos h1]
        · rw [if_neg h1, if_neg h1]
          by_cases h2 : r.length < n + 12
          · rw [if_pos h2, if_pos h2]
          · rw [if_neg h2, if_neg h2]
            have h3 := frame_same n (by omega) hr256 hsum hnn
            by_cases h4 : num4 (r.drop (8 + n)) = extN 0 ((r.drop 8).take n)
            · rw [if_neg (by simpa using h4), if_neg (by simpa using h3.2 h4)]
            · rw [if_pos h4, if_pos (fun h => h4 (h3.1 h))]
    obtain ⟨R, hR⟩ : ∃ R, readN r k = R := ⟨_, rfl⟩
    rw [hR] at hcases ⊢
    rw [hrl] at hcases
    obtain ⟨S1, e1⟩ : ∃ S, extN 0 (r.take 4) = S := ⟨_, rfl⟩
    rw [e1] at c1 c2 c3
    have HI := Lib.hid hI
    have HR := Lib.hid hr
    obtain ⟨len, hlen⟩ : ∃ len, bs.length = len := ⟨_, rfl⟩
    rw [hlen] at hk h8 hreach hcap HI hcases ⊢
    have HRR := Lib.hid hcases
    have hd4 : k + 4 - k = 4 := by omega
    have hd8 : k + 8 - (k + 4) = 4 := by omega
    have hx0 : ¬ cap = k := by omega
    have hx4 : ¬ cap = k + 4 := by omega
    have h8I : 8 ≤ (len : Int) - (k : Int) := by omega
    have hkI : (k : Int) ≤ (len : Int) := by omega
    have hk4 : (k : Int) + 4 ≤ (cap : Int) := by omega
    have hk8 : (k : Int) + 8 ≤ (cap : Int) := by omega
    have hcI : (len : Int) ≤ (cap : Int) := by omega
    have C1 := Lib.hid c1
    have C2 := Lib.hid c2
    have C3 := Lib.hid c3
    have C4 := Lib.hid c4
    have HRL := Lib.hid (show r.length + k = len by omega)
    clear c1 c2 c3 c4 q1 q2 hhead hn hr hrl hr256 e1 hlen hI hnn hB hcases hR
    go_enter Tryz.func98, Tryz.ntmps98
    go_upto_region 5 with fail
    go_cut [38] (fun s wx => s = .bool (!B) ∧ Below w.heap.size w wx)
    case first =>

      have w4 : IntKind.i64.wrap ((k : Int) + 4) = (k : Int) + 4 := IntWalk.i64_in _ (by omega)
      have w8 : IntKind.i64.wrap ((k : Int) + 8) = (k : Int) + 8 := IntWalk.i64_in _ (by omega)
      have z4 : 0 ≤ (k : Int) + 4 := by omega
      have z8 : 0 ≤ (k : Int) + 8 := by omega
      have t4 : ((k : Int) + 4).toNat = k + 4 := by omega
      have t8 : ((k : Int) + 8).toNat = k + 8 := by omega
      go_region_with (first
        | (go_at_call 116; ((with_reducible refine (C1.out _ ?_).mono ?_); (first | assumption | exact (Below.refl _ _).drew)); rintro e w' ⟨rfl, hB1⟩)
        | (go_at_call 115; ((with_reducible refine (C2.out _ ?_).mono ?_); (first | assumption | exact (Below.refl _ _).drew)); rintro e w' ⟨v2, rfl, I2, hB2⟩)
        | (go_at_call 18; (with_reducible refine (C3.out _ (by assumption) _ (by assumption)).mono ?_); rintro e w' ⟨rfl, hB3⟩))
      all_goals
        clear w4 w8 t4 t8
        go_wp2_with fail
        go_meet
        exact ⟨rfl, by assumption⟩
    case rest =>
      obtain ⟨rfl, hB0⟩ := hcut
      cases B with
      | false =>
        obtain rfl : R = ([], 0, 4) := by rw [HRR.out, if_neg (show ¬ (false = true) by decide)]
        go_wp2
        go_ret3
        exact ⟨_, rfl, ownB_nil _ _ _, hB0⟩
      | true =>
        have hR1 := HRR.out
        rw [if_pos (show true = true from rfl)] at hR1
        have HR1 := Lib.hid hR1
        clear hR1 HRR
        go_wp2_with fail
        refine (C4.out _ hB0).mono ?_
        rintro e w5 ⟨rfl, hB5⟩
        clear hB0
        by_cases hbig : 65536 < n
        · obtain rfl : R = ([], 0, 2) := by rw [HR1.out, if_pos hbig]
          have hbI : 65536 < (n : Int) := by omega
          clear hbig
          go_wp2
          go_ret3
          exact ⟨_, rfl, ownB_nil _ _ _, hB5⟩
        · have hR2 := HR1.out
          rw [if_neg hbig] at hR2
          have HR2 := Lib.hid hR2
          clear hR2 HR1
          have hbI : (n : Int) ≤ 65536 := by omega
          by_cases hshort : len - k < n + 12
          · obtain rfl : R = ([], 0, 5) := by rw [HR2.out, if_pos hshort]
            have hsI : (len : Int) - (k : Int) - 12 < (n : Int) := by omega
            clear hbig hshort
            go_wp2
            go_ret3
            exact ⟨_, rfl, ownB_nil _ _ _, hB5⟩
          · have hR3 := HR2.out
            rw [if_neg hshort] at hR3
            have q5 := Bytes.piece HI.out (k + 8) n (cap - (k + 8)) (by omega) (by omega)
            rw [← List.drop_drop, HR.out] at q5
            have q6 := Bytes.piece HI.out k (12 + n) (cap - k) (by omega) (by omega)
            rw [HR.out] at q6
            have hrl := HRL.out
            have lp : ((r.drop 8).take n).length = n := by rw [List.length_take, List.length_drop]; omega
            obtain ⟨p, hp⟩ : ∃ p, (r.drop 8).take n = p := ⟨_, rfl⟩
            rw [hp] at q5 lp hR3
            have c6 := same_on w (xs := frameN p) q6
            obtain ⟨B2, hB2⟩ : ∃ x, decide (frameN p = r.take (12 + n)) = x := ⟨_, rfl⟩
            rw [hB2] at c6
            have hif : (if frameN p ≠ r.take (12 + n) then (([] : List Nat), 0, 4) else (p, k + 12 + n, 0)) = if B2 = true then (p, k + 12 + n, 0) else ([], 0, 4) := by
              cases B2 with
              | false => rw [if_pos (of_decide_eq_false hB2), if_neg (by decide)]
              | true => rw [if_neg (by simpa using of_decide_eq_true hB2), if_pos rfl]
            rw [hif] at hR3
            have HR3 := Lib.hid hR3
            have hputn : putN p = (frameN p, 0) := by unfold putN; rw [if_pos (by omega)]
            have hsI : (n : Int) ≤ (len : Int) - (k : Int) - 12 := by omega
            have hk8n : (k : Int) + 8 + (n : Int) ≤ (cap : Int) := by omega
            have hk12n : (k : Int) + 12 + (n : Int) ≤ (cap : Int) := by omega
            have hx8 : ¬ cap = k + 8 := by omega
            have hd8n : k + 8 + n - (k + 8) = n := by omega
            have hd12n : k + 12 + n - k = 12 + n := by omega
            have hlpI : ([] : List Nat).length + p.length ≤ 140737488355328 := by rw [List.length_nil]; omega
            have O0 := ownB_made w5 5
            have hB6 := hB5.alloc hB5.size (.cells #[] 5)
            have q7 := q5.below hB6
            have C6 := Lib.hid c6
            have LP := Lib.hid lp
            have HPN := Lib.hid hputn
            have HLP := Lib.hid hlpI
            have HO0 := Lib.hid O0
            have Q7 := Lib.hid q7
            clear c6 q5 q6 q7 hif hB2 hp hputn lp hrl hlpI O0 hbig hshort hR3 HR2
            go_wp2_with (at_builtin; refine wpList_append_bytes rfl _ _ _ rfl Tryz.underlying29 hi hz0 hz1 hz2 rfl rfl (by simp [Act.eval, Array.getD]) HO0.out Q7.out HLP.out (by simp) ?next)
            case next =>
              intro v8 w8 O8 G8
              have hB8 := hB5.trans ((below_append ((Below.refl w5.heap.size w5).alloc (Nat.le_refl _) (.cells #[] 5)) G8 HO0.out (Nat.le_refl _) (by simp)).mono hB5.size)
              have O8' := O8.lower hB5.size
              clear O8 G8 Q7 HO0 hB6
              have c7 := refput_calls v8 p (by rw [LP.out]; omega) w8 O8'.bytes
              rw [HPN.out] at c7
              go_wp2_with fail
              refine c7.mono ?_
              rintro e w9 ⟨v9, rfl, O9, B9⟩
              have hB9 := hB8.trans (B9.mono hB8.size)
              have O8'' := O8'.below B9
              clear c7 O8' B9 hB8
              have d6 := C6.out w9 hB9 v9 O9.bytes
              have O10 := O8''
              clear O8'' O9 C6
              cases B2 with
              | false =>
                obtain rfl : R = ([], 0, 4) := by rw [HR3.out, if_neg (show ¬ (false = true) by decide)]
                have D6 := Lib.hid d6
                clear d6 HR3
                go_wp2_with fail
                refine D6.out.mono ?_
                rintro e w10 ⟨rfl, rfl⟩
                go_wp2
                go_ret3
                exact ⟨_, rfl, ownB_nil _ _ _, hB9⟩
              | true =>
                obtain rfl : R = (p, k + 12 + n, 0) := by rw [HR3.out, if_pos (show true = true from rfl)]
                have D6 := Lib.hid d6
                clear d6 HR3
                go_wp2_with fail
                refine D6.out.mono ?_
                rintro e w10 ⟨rfl, rfl⟩
                go_wp2
                go_ret3
                exact ⟨v8, ret3_eq (show (k : Int) + 12 + (n : Int) = ((k + 12 + n : Nat) : Int) by omega), O10, hB9⟩

end Go.Proofs.YtdikmlnpclklnaaGreatDoor.Frame

/-
  The walk of the law FrameNexts: whatever the bytes and the place, it returns true and nothing that lay has turned.
-/
namespace Go.Proofs.YtdikmlnpclklnaaGreatDoor.Frame
open Go.RowKit Go.Shelf Go.Proofs.YtdikmlnpclklnaaGreatDoor.Law Go.Proofs.YtdikmlnpclklnaaGreatDoor.Crc

/-- The answer at any place. -/
def answerN (bs : List Nat) (z : Int) : List Nat × Nat × Nat := if z < 0 ∨ (bs.length : Int) < z then ([], 0, 1) else nextN bs z.toNat

theorem next_calls (sv : Value) (bs : List Nat) (hreach : bs.length ≤ 140737488351232) (z : Int) (w : World) (hT : Tab w) (hI : Bytes w.heap.size w sv bs) :
    Calls Tryz.prog 104 #[sv, .int .i64 z] w (Owned3 w.heap.size w (answerN bs z)) := by
  unfold answerN
  by_cases h : z < 0 ∨ (bs.length : Int) < z
  · rw [if_pos h]; exact next_bad sv bs z h w hI
  · rw [if_neg h]
    have e : z = (z.toNat : Int) := by omega
    have c := next_at sv bs hreach z.toNat (by omega) w hT hI
    rw [← e] at c
    exact c
theorem refnext_calls (sv : Value) (bs : List Nat) (hreach : bs.length ≤ 140737488351232) (z : Int) (w : World) (hI : Bytes w.heap.size w sv bs) :
    Calls Tryz.prog 98 #[sv, .int .i64 z] w (Owned3 w.heap.size w (answerN bs z)) := by
  unfold answerN
  by_cases h : z < 0 ∨ (bs.length : Int) < z
  · rw [if_pos h]; exact refnext_bad sv bs z h w hI
  · rw [if_neg h]
    have e : z = (z.toNat : Int) := by omega
    have c := refnext_at sv bs hreach z.toNat (by omega) w hI
    rw [← e] at c
    exact c

end Go.Proofs.YtdikmlnpclklnaaGreatDoor.Frame
