/-
  Contracts of All, the project's and the document's.
-/
import Derived.Test.YtmfndimejnbgkaaFoldRef
namespace Go.Proofs.Ytmfndimejnbgkaa.Fold
open Go Go.RowKit Go.Proofs.Ytmfndimejnbgkaa.Law

abbrev RetA (r : Nat × Bool) (w : World) (e : Ending) (w' : World) : Prop := e = .returned (.tuple #[.int .u32 (r.1 : Nat), .bool r.2]) ∧ w = w'
abbrev OldU (n : Nat) (W : World) (v : Value) (l : List Nat) : Prop := OldR u32V n W v l

theorem alN_no {x : Int} (l : List Nat) (h : isF x = false) : alN x l = (0, false) := by unfold alN; rw [h]; rfl
theorem alN_nil (x : Int) : alN x [] = (0, false) := by unfold alN; split <;> rfl
theorem alN_some {x : Int} {l : List Nat} {y : Nat} (h : isF x = true) (hy : foO x l = some y) : alN x l = (y, true) := by unfold alN; rw [h, hy]; rfl
theorem take_next {l : List Nat} {k u : Nat} (h : l[k]? = some u) : l.take (k + 1) = l.take k ++ [u] := by
  rw [List.take_add_one, h]; rfl
theorem drop_this {l : List Nat} {k u : Nat} (h : l[k]? = some u) : l.drop k = u :: l.drop (k + 1) := by
  obtain ⟨h1, h2⟩ := List.getElem?_eq_some_iff.1 h
  rw [← h2]; exact List.drop_eq_getElem_cons h1

set_option maxRecDepth 100000 in
set_option maxHeartbeats 2000000 in
theorem all_calls (x : Int) (l : List Nat) (hl : ∀ v ∈ l, v < 4294967296) (hlen : l.length ≤ maxLen) (sv : Value) (w : World) (hI : OldU w.heap.size w sv l) :
    Calls Try.prog 135 #[.int .i64 x, sv] w (RetA (alN x l) w) := by
  unfold maxLen at hlen
  have HF := Lib.hid (isFold_calls x w)
  cases hx : isF x with
  | false =>
    rw [alN_no l hx]
    rw [hx] at HF
    clear hx
    obtain ⟨A, cap, rfl, _⟩ := hI.form
    clear hI
    go_enter Try.func135, Try.ntmps135
    go_wp2_with fail
    refine HF.out.mono ?_
    rintro e w' ⟨rfl, rfl⟩
    go_wp2_with fail
    go_ret2
    exact ⟨rfl, rfl⟩
  | true =>
    have HX := Lib.hid hx
    rw [hx] at HF
    clear hx
    cases l with
    | nil =>
      rw [alN_nil]
      obtain ⟨A, cap, rfl, _⟩ := hI.form
      clear hI
      go_enter Try.func135, Try.ntmps135
      go_wp2_with fail
      refine HF.out.mono ?_
      rintro e w' ⟨rfl, rfl⟩
      go_wp2_with fail
      go_ret2
      exact ⟨rfl, rfl⟩
    | cons v r =>
      obtain ⟨l, hll⟩ : ∃ l, v :: r = l := ⟨_, rfl⟩
      have h0 : l[0]? = some v := by rw [← hll]; rfl
      have hn : l.length = r.length + 1 := by rw [← hll]; rfl
      have ht : foO x (l.take 1) = some (stN x v) := by rw [← hll]; rfl
      rw [hll] at hl hlen hI ⊢
      have hv := hl v (List.mem_of_getElem? h0)
      obtain ⟨A, cap, rfl, hc⟩ := hI.form
      obtain ⟨b, off, rfl, _, hcell⟩ := hI.at (by omega)
      have c0 := hcell 0 v h0
      rw [Nat.add_zero] at c0
      obtain ⟨n, hn'⟩ : ∃ n, r.length = n := ⟨_, rfl⟩
      obtain ⟨len, hL⟩ : ∃ len, l.length = len := ⟨_, rfl⟩
      rw [hL] at hlen hc hn ⊢
      rw [hn'] at hn
      have hsub : (len : Int) - 1 = (n : Int) := by omega
      have hz : ((len : Int) == 0) = false := by rw [beq_eq_false_iff_ne]; omega
      have hpos : 0 < len := by omega
      have hle : len = n + 1 := hn
      have HC := Lib.hid hcell
      have HT := Lib.hid ht
      have HL := Lib.hid hL
      have HLt := Lib.hid hl
      clear hcell ht hL hl hI h0 hll hn hn' hle
      go_enter Try.func135, Try.ntmps135
      go_wp2_with fail
      refine HF.out.mono ?_
      rintro e w' ⟨rfl, rfl⟩
      go_wp2_with fail
      refine (start_calls x v _).mono ?_
      rintro e w' ⟨rfl, rfl⟩
      go_wp2_with fail
      go_loop [6, 24] (fun a i => ∃ k y : Nat, k ≤ n ∧ i = .int .i64 k ∧ a = .int .u32 (y : Nat) ∧ foO x (l.take (k + 1)) = some y) (fun _ i => n - (intOf i).toNat)
      case atStart => exact ⟨0, _, Nat.zero_le _, rfl, rfl, HT.out⟩
      case round =>
        obtain ⟨k, y, hk, rfl, rfl, hy⟩ := hrel
        by_cases hlt : k < n
        · have hkl : k + 1 < len := by omega
          obtain ⟨u, hu⟩ : ∃ u, l[k + 1]? = some u := ⟨_, List.getElem?_eq_getElem (by rw [HL.out]; exact hkl)⟩
          have cu := HC.out (k + 1) u hu
          have hul := HLt.out u (List.mem_of_getElem? hu)
          have hsl := stN_lt x u hul
          have hyl := foO_lt x _ y (fun z hz => HLt.out z (List.mem_of_mem_take hz)) hy
          have hnx : foO x (l.take (k + 1 + 1)) = some (jnN x y (stN x u)) := by rw [take_next hu]; exact foO_snoc x _ u y hy
          have HN := Lib.hid hnx
          have CJ := Lib.hid (join_calls x y (stN x u) hyl hsl w)
          clear hnx hu hy hsl
          go_wp2_with fail
          refine (start_calls x u _).mono ?_
          rintro e w' ⟨rfl, rfl⟩
          go_wp2_with fail
          refine CJ.out.mono ?_
          rintro e w' ⟨rfl, rfl⟩
          go_wp2_with fail
          go_round
          case rel => exact ⟨k + 1, _, by omega, by go_num, rfl, HN.out⟩
          case measure => simp [intOf]; omega
        · obtain rfl : k = n := by omega
          have hfull : foO x l = some y := by rwa [List.take_of_length_le (by rw [HL.out]; omega)] at hy
          have HY := Lib.hid (alN_some HX.out hfull)
          clear hy hfull
          go_wp2_with fail
          go_ret2
          exact ⟨by rw [HY.out]; rfl, rfl⟩

end Go.Proofs.Ytmfndimejnbgkaa.Fold
