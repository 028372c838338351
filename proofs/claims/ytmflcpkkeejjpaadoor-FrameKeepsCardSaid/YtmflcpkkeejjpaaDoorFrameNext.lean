/-
  Contracts of Next, the project's and the document's own: the payload of the frame at a place, in new memory, the place behind it, or the error.
-/
import Derived.Test.YtmflcpkkeejjpaaDoorFramePut
import Derived.Deep.RegionWith
namespace Go.Proofs.YtmflcpkkeejjpaaDoor.Frame
open Go.RowKit Go.Shelf Go.Proofs.YtmflcpkkeejjpaaDoor.Law Go.Proofs.YtmflcpkkeejjpaaDoor.Crc

theorem Bytes.piece {n b off len cap : Nat} {W : World} {bs : List Nat} (h : Bytes n W (.slice (some ⟨b, off, none⟩) len cap) bs) (lo l cap' : Nat) (hl : lo + l ≤ len) (hc : l ≤ cap') :
    Bytes n W (.slice (some ⟨b, off + lo, none⟩) l cap') ((bs.drop lo).take l) := by
  obtain ⟨A', c', e, h1, h2, h3, h4⟩ := h
  simp only [Value.slice.injEq] at e
  obtain ⟨rfl, rfl, rfl⟩ := e
  have hlen : ((bs.drop lo).take l).length = l := by rw [List.length_take, List.length_drop]; omega
  refine ⟨_, cap', by rw [hlen], by rw [hlen]; exact hc, (fun h => by cases h), fun x hx => h3 x (List.mem_of_mem_drop (List.mem_of_mem_take hx)), fun hp => ?_⟩
  rw [hlen] at hp
  obtain ⟨b', off', e', hb, hcell⟩ := h4 (by omega)
  simp only [Option.some.injEq, Addr.mk.injEq, and_true] at e'
  obtain ⟨rfl, rfl⟩ := e'
  refine ⟨b, off + lo, rfl, hb, fun j hj => ?_⟩
  rw [hlen] at hj
  rw [Nat.add_assoc, hcell _ (by omega), getD_piece, if_pos hj]

/-- Contracts from a world on in which nothing below has turned. -/
theorem num_from (w : World) {sv : Value} {bs : List Nat} (h4 : 4 ≤ bs.length) (hreach : bs.length ≤ 140737488351232) (hI : Bytes w.heap.size w sv bs) (W : World) (hB : Below w.heap.size w W) :
    Calls Tryd.prog 30 #[sv] W fun e W' => e = .returned (.int .u32 (num4 bs : Nat)) ∧ Below w.heap.size w W' :=
  (num_calls sv bs h4 hreach W (hI.on hB)).mono fun _ _ ⟨he, hb⟩ => ⟨he, hB.trans (hb.mono hB.size)⟩
theorem sum_from' (w : World) (hT : Tab w) {sv : Value} {bs : List Nat} (hreach : bs.length ≤ 140737488351232) (hI : Bytes w.heap.size w sv bs) (W : World) (hB : Below w.heap.size w W) :
    Calls Tryd.prog 26 #[sv] W fun e W' => e = .returned (.int .u32 (extN 0 bs : Nat)) ∧ Below w.heap.size w W' :=
  (sum_calls sv bs hreach W (hT.below hB) (hI.on hB)).mono fun _ _ ⟨he, hb⟩ => ⟨he, hB.trans (hb.mono hB.size)⟩

/-- What is read ahead of a payload: its length, or the error. -/
def headN (r : List Nat) : Nat × Nat :=
  if r.length < 8 then (0, 5) else if num4 (r.drop 4) ≠ extN 0 (r.take 4) then (0, 4) else if 65536 < num4 r then (0, 2) else (num4 r, 0)

theorem readN_head_err {r : List Nat} (at0 : Nat) (h : (headN r).2 ≠ 0) : readN r at0 = ([], 0, (headN r).2) := by
  unfold headN at h ⊢
  unfold readN
  split
  · rfl
  · split
    · rfl
    · split
      · rfl
      · rename_i h1 h2 h3
        rw [if_neg h1, if_neg h2, if_neg h3] at h
        exact absurd rfl h
theorem headN_ok {r : List Nat} (h : (headN r).2 = 0) : headN r = (num4 r, 0) ∧ 8 ≤ r.length ∧ num4 (r.drop 4) = extN 0 (r.take 4) ∧ num4 r ≤ 65536 := by
  unfold headN at h ⊢
  by_cases h1 : r.length < 8
  · rw [if_pos h1] at h; cases h
  · by_cases h2 : num4 (r.drop 4) = extN 0 (r.take 4)
    · by_cases h3 : 65536 < num4 r
      · rw [if_neg h1, if_neg (by simpa using h2), if_pos h3] at h; cases h
      · rw [if_neg h1, if_neg (by simpa using h2), if_neg h3]
        exact ⟨rfl, by omega, h2, by omega⟩
    · rw [if_neg h1, if_pos h2] at h; cases h

def Two (w : World) (n m : Nat) (e : Ending) (W : World) : Prop := e = .returned (.tuple #[.int .i64 (n : Nat), .int .i64 (m : Nat)]) ∧ Below w.heap.size w W

set_option maxRecDepth 100000 in
set_option maxHeartbeats 4000000 in
theorem payloadLen_calls (sv : Value) (bs : List Nat) (hreach : bs.length ≤ 140737488351232) (w : World) (hT : Tab w) (hI : Bytes w.heap.size w sv bs) :
    Calls Tryd.prog 29 #[sv] w (Two w (headN bs).1 (headN bs).2) := by
  obtain ⟨A, cap, rfl⟩ := hI.form
  by_cases h8 : bs.length < 8
  · have hh : headN bs = (0, 5) := by unfold headN; rw [if_pos h8]
    rw [hh]
    obtain ⟨len, hlen⟩ : ∃ len, bs.length = len := ⟨_, rfl⟩
    rw [hlen] at h8 ⊢
    have h8I : (len : Int) < 8 := by omega
    clear hh hI hlen hreach hT h8
    go_enter Tryd.func29, Tryd.ntmps29
    go_wp2
    go_ret2
    exact ⟨rfl, Below.refl _ _⟩
  · obtain ⟨b, off, rfl, hb, -⟩ := hI.cells (by omega)
    have hcap := hI.capOk
    have p1 := Bytes.piece hI 4 (bs.length - 4) (cap - 4) (by omega) (by omega)
    have p2 := Bytes.piece hI 0 4 cap (by omega) (by omega)
    rw [List.take_of_length_le (by rw [List.length_drop]; omega)] at p1
    rw [List.drop_zero, Nat.add_zero] at p2
    have l1 : (bs.drop 4).length = bs.length - 4 := List.length_drop
    have l2 : (bs.take 4).length = 4 := by rw [List.length_take]; omega
    have c1 := num_from w (by omega) (by omega) p1
    have c2 := sum_from' w hT (by omega) p2
    have c3 := num_from w (by omega) hreach hI
    have n3 := num4_lt hI.lt
    have hh : headN bs = if num4 (bs.drop 4) ≠ extN 0 (bs.take 4) then (0, 4) else if 65536 < num4 bs then (0, 2) else (num4 bs, 0) := by unfold headN; rw [if_neg h8]
    obtain ⟨N2, e1⟩ : ∃ N, num4 (bs.drop 4) = N := ⟨_, rfl⟩
    obtain ⟨S1, e2⟩ : ∃ N, extN 0 (bs.take 4) = N := ⟨_, rfl⟩
    obtain ⟨N, e3⟩ : ∃ N, num4 bs = N := ⟨_, rfl⟩
    rw [e1] at c1 hh
    rw [e2] at c2 hh
    rw [e3] at c3 hh n3
    obtain ⟨len, hlen⟩ : ∃ len, bs.length = len := ⟨_, rfl⟩
    rw [hlen] at h8 hcap hreach c1 c3 ⊢
    have C1 := Lib.hid c1
    have C2 := Lib.hid c2
    have C3 := Lib.hid c3
    have hx0 : ¬ cap = 0 := by omega
    have hx4 : ¬ cap = 4 := by omega
    have hcapI : (len : Int) ≤ (cap : Int) := by omega
    have h8I : 8 ≤ (len : Int) := by omega
    have h4I : 4 ≤ (len : Int) := by omega
    have h8J : 8 ≤ (cap : Int) := by omega
    have h4J : 4 ≤ (cap : Int) := by omega
    clear hT hI p1 p2 l1 l2 c1 c2 c3 e1 e2 e3 hlen
    by_cases hne : N2 = S1
    · subst hne
      rw [if_neg (by simp)] at hh
      by_cases hbig : 65536 < N
      · rw [if_pos hbig] at hh
        rw [hh]
        have hbI : 65536 < (N : Int) := by omega
        clear hh hbig
        go_enter Tryd.func29, Tryd.ntmps29
        go_wp2
        go_region_with ((first | (go_at_call 30; ((with_reducible refine (C1.out _ ?_).mono ?_); (first | assumption | exact (Below.refl _ _).drew | exact Below.drew (by assumption)))) | (go_at_call 26; ((with_reducible refine (C2.out _ ?_).mono ?_); (first | assumption | exact (Below.refl _ _).drew | exact Below.drew (by assumption))))); rintro e w' ⟨rfl, hB'⟩)
        all_goals
          go_wp2_with fail
          refine (C3.out _ (by assumption)).mono ?_
          rintro e w3 ⟨rfl, hB3⟩
          go_wp2
          go_ret2
          exact ⟨rfl, hB3⟩
      · rw [if_neg hbig] at hh
        rw [hh]
        have hbI : (N : Int) ≤ 65536 := by omega
        clear hh hbig
        go_enter Tryd.func29, Tryd.ntmps29
        go_wp2
        go_region_with ((first | (go_at_call 30; ((with_reducible refine (C1.out _ ?_).mono ?_); (first | assumption | exact (Below.refl _ _).drew | exact Below.drew (by assumption)))) | (go_at_call 26; ((with_reducible refine (C2.out _ ?_).mono ?_); (first | assumption | exact (Below.refl _ _).drew | exact Below.drew (by assumption))))); rintro e w' ⟨rfl, hB'⟩)
        all_goals
          go_wp2_with fail
          refine (C3.out _ (by assumption)).mono ?_
          rintro e w3 ⟨rfl, hB3⟩
          go_wp2
          go_ret2
          exact ⟨rfl, hB3⟩
    · rw [if_pos hne] at hh
      rw [hh]
      have ht1 : ((N2 : Int) == (S1 : Int)) = false := by rw [beq_eq_false_iff_ne]; omega
      have ht2 : ((N2 : Int) != (S1 : Int)) = true := by rw [bne_iff_ne]; omega
      clear hh hne
      go_enter Tryd.func29, Tryd.ntmps29
      go_wp2
      go_region_with ((first | (go_at_call 30; ((with_reducible refine (C1.out _ ?_).mono ?_); (first | assumption | exact (Below.refl _ _).drew | exact Below.drew (by assumption)))) | (go_at_call 26; ((with_reducible refine (C2.out _ ?_).mono ?_); (first | assumption | exact (Below.refl _ _).drew | exact Below.drew (by assumption))))); rintro e w' ⟨rfl, hB'⟩)
      all_goals
        go_wp2
        go_ret2
        exact ⟨rfl, by assumption⟩

end Go.Proofs.YtmflcpkkeejjpaaDoor.Frame
