/-
  Put together out of texts of one chain: what they hold stands ahead of each.
-/
import Derived.Test.YtnhkpemajknfnaaGreatDoorGSeglogHeads09
import Derived.Shelf.RegionOpen
import Derived.Deep.LoopGhost
import Derived.Lib.QuietBelow
import Derived.BigQuiet
import Derived.WalkSmall
/-
  Contract of slices.Delete at segments.
-/
namespace Go.Proofs.YtnhkpemajknfnaaGreatDoor.Seglog
open Go Go.RowKit Go.Lib Go.Proofs.YtnhkpemajknfnaaGreatDoor.Law Go.Proofs.YtnhkpemajknfnaaGreatDoor.Disk

theorem drop_take_front (l ys r : List Value) (o a : Nat) (hm : o + a ≤ l.length) : ((l.take (o + a) ++ ys ++ r).drop o).take a = (l.drop o).take a := by
  have h1 : (l.take (o + a)).length = o + a := by rw [List.length_take]; omega
  rw [List.append_assoc, List.drop_append_of_le_length (by omega)]
  have h2 : ((l.take (o + a)).drop o) = (l.drop o).take a := by rw [List.drop_take]; congr 1; omega
  have h3 : ((l.drop o).take a).length = a := by rw [List.length_take, List.length_drop]; omega
  rw [h2, List.take_append_of_le_length (by omega), List.take_take, Nat.min_self]

theorem take_front {l xs : List Value} {o m a : Nat} (h : (l.drop o).take m = xs) (ha : a ≤ m) : (l.drop o).take a = xs.take a := by
  rw [← h, List.take_take, Nat.min_eq_left ha]

theorem flatS_take : ∀ (l : List SV) (k : Nat), (flatS l).take (k * 2) = flatS (l.take k)
  | [], k => by simp [flatS]
  | m :: r, 0 => by simp [flatS]
  | m :: r, k + 1 => by
    rw [show (k + 1) * 2 = k * 2 + 1 + 1 by omega]
    simp only [flatS, List.take_succ_cons, flatS_take r k]
theorem flatS_drop : ∀ (l : List SV) (k : Nat), (flatS l).drop (k * 2) = flatS (l.drop k)
  | [], k => by simp [flatS]
  | m :: r, 0 => by simp [flatS]
  | m :: r, k + 1 => by
    rw [show (k + 1) * 2 = k * 2 + 1 + 1 by omega]
    simp only [flatS, List.drop_succ_cons, flatS_drop r k]
/-- n segments that are none, as cells. -/
def noSegs (n : Nat) : List Value := (List.replicate n ([Value.int .i64 0, .slice none 0 0] : List Value)).flatten
theorem noSegs_length : ∀ n : Nat, (noSegs n).length = n * 2
  | 0 => rfl
  | n + 1 => by
    have := noSegs_length n
    unfold noSegs at this ⊢
    rw [List.replicate_succ, List.flatten_cons, List.length_append, this]
    show 2 + n * 2 = _
    omega
theorem noSegs_one (n : Nat) : ∀ u ∈ noSegs n, u.oneCell' = true := fun u hu => by
  obtain ⟨l, hl, hu⟩ := List.mem_flatten.1 hu
  rw [(List.mem_replicate.1 hl).2] at hu
  simp only [List.mem_cons, List.not_mem_nil, or_false] at hu
  rcases hu with rfl | rfl <;> rfl
theorem map_cycle (f : Nat → Value) (hf : ∀ i, f (2 + i) = f i) : ∀ n : Nat, (List.range (n * 2)).map f = (List.replicate n [f 0, f 1]).flatten
  | 0 => rfl
  | n + 1 => by
    rw [show (n + 1) * 2 = 2 + n * 2 by omega, List.range_add, List.map_append, List.map_map, List.replicate_succ, List.flatten_cons, ← map_cycle f hf n]
    congr 1
    apply List.map_congr_left
    intro i _
    exact hf i
theorem zeroCells_segs (n : Nat) : (Builtin.zeroCells (Value.agg #[.int .i64 0, .slice none 0 0]).cells n).toList = noSegs n := by
  have hc : (Value.agg #[.int .i64 0, .slice none 0 0]).cells = #[.int .i64 0, .slice none 0 0] := rfl
  rw [hc]
  simp [Builtin.zeroCells]
  exact map_cycle _ (fun i => by rw [Nat.add_mod_left]) n

theorem run_clear_segs (w : World) (ty : TypeId) (g o n c : Nat) (cur : Array Value) (hg : w.heap[g]? = some (.cells cur 84 (0, 0))) (hfit : o + n * 2 ≤ cur.size) :
    (Builtin.clear_ #[79] ty #[.slice (some ⟨g, o, none⟩) n c]).run Tryz.prog w = .ok (.tuple #[]) (w.setRow g (cur.toList.take o ++ noSegs n ++ cur.toList.drop (o + n * 2)).toArray) := by
  cases n with
  | zero =>
    have : w.setRow g (cur.toList.take o ++ noSegs 0 ++ cur.toList.drop (o + 0 * 2)).toArray = w := by
      have e : (cur.toList.take o ++ noSegs 0 ++ cur.toList.drop (o + 0 * 2)).toArray = cur := by simp [noSegs]
      rw [e]; exact setRow_self w g cur _ _ hg
    rw [this]
    simp [Builtin.clear_, run_underlying Tryz.underlying79]
  | succ n =>
    have hst := run_storeCells_at Tryz.prog g o 84 (noSegs (n + 1)) 0 cur w hg (by rw [noSegs_length]; simpa using hfit) (noSegs_one _)
    rw [noSegs_length] at hst
    simp only [Nat.add_zero] at hst
    rw [← zeroCells_segs] at hst ⊢
    simp [Builtin.clear_, run_underlying Tryz.underlying79, hst]

/-- What Delete leaves. -/
def Deleted (w : World) (base g o cap n : Nat) (ms : List SV) (e : Ending) (W : World) : Prop :=
  e = .returned (.slice (some ⟨g, o, none⟩) n cap) ∧ Seg W base 84 2 (.slice (some ⟨g, o, none⟩) n cap) n (flatS ms) ∧ w.grownBy W (some g)

theorem grownBy_trans {a b c : World} {r : Option Nat} (h : a.grownBy b r) (k : b.grownBy c r) : a.grownBy c r :=
  ⟨k.os.trans h.os, k.tape.trans h.tape, k.output.trans h.output, Nat.le_trans h.size k.size, fun j hj hr => (k.block j (Nat.lt_of_lt_of_le hj h.size) hr).trans (h.block j hj hr)⟩

theorem delete_facts (base g o cap n i j : Nat) (ms : List SV) (hv1 : ∀ p ∈ ms, p.2.oneCell' = true) (w : World) (hn : ms.length = n) (hij : i ≤ j) (hj : j ≤ n) (cur : Array Value) (hO : Seg w base 84 2 (.slice (some ⟨g, o, none⟩) n cap) n (flatS ms)) (hg : w.heap[g]? = some (.cells cur 84 (0, 0))) (hnc : n ≤ cap) (hfit : o + cap * 2 ≤ cur.size)
    (ht : (cur.toList.drop o).take (n * 2) = flatS ms) :
    ∃ (A : Addr) (W1 W2 : World), (if cap = j then some (⟨g, o, none⟩ : Addr) else some ⟨g, o + j * 2, none⟩) = some A ∧
      (∀ ty, (Builtin.append_ #[79, 79] ty #[.slice (some ⟨g, o, none⟩) i cap, .slice (some A) (n - j) (cap - j)]).run Tryz.prog w.drew = .ok (.slice (some ⟨g, o, none⟩) (i + (n - j)) cap) W1) ∧
      (∀ ty, (Builtin.clear_ #[79] ty #[.slice (some ⟨g, o + (i + (n - j)) * 2, none⟩) (n - (i + (n - j))) (cap - (i + (n - j)))]).run Tryz.prog W1 = .ok (.tuple #[]) W2) ∧
      Seg W2 base 84 2 (.slice (some ⟨g, o, none⟩) (i + (n - j)) cap) (i + (n - j)) (flatS (ms.take i ++ ms.drop j)) ∧ w.grownBy W2 (some g) := by
  obtain ⟨i0, hi, hz0, hz1, hz2⟩ := info_parts info_segment
  have hl : (flatS (ms.drop j)).length = (n - j) * i0.size := by rw [flatS_length, List.length_drop, hn, hz1]
  have hl2 : (flatS (ms.drop j)).length = (n - j) * 2 := by rw [flatS_length, List.length_drop, hn]
  have hsrc : ∃ A : Addr, (if cap = j then some (⟨g, o, none⟩ : Addr) else some ⟨g, o + j * 2, none⟩) = some A ∧ (∀ t u, (flatS (ms.drop j))[t]? = some u → w.drew.cell? (A.add t) = some u) := by
    by_cases h : cap = j
    · refine ⟨⟨g, o, none⟩, by simp [h], fun t u hu => ?_⟩
      have h0 : (flatS (ms.drop j)).length = 0 := by rw [hl2]; omega
      rw [List.length_eq_zero_iff.1 h0] at hu
      simp at hu
    · refine ⟨⟨g, o + j * 2, none⟩, by simp [h], fun t u hu => ?_⟩
      rw [← flatS_drop, List.getElem?_drop] at hu
      rw [Addr.add_lit, Nat.add_assoc]
      exact (hO.cell hu).1
  obtain ⟨A, hA, hsrc⟩ := hsrc
  have hmul : i * 2 + (n - j) * 2 ≤ cap * 2 := by omega
  have hr := fun ty => run_append_room_off (P := Tryz.prog) w.drew 79 ty 84 i0 Tryz.underlying79 hi g o i cap cur hg A (n - j) (cap - j) (flatS (ms.drop j)) hl hsrc (flatS_one _ fun p hp => hv1 p (List.mem_of_mem_drop hp)) (by omega) (by rw [hz1, hl2]; omega)
  rw [hz1, hl2] at hr
  obtain ⟨cur1, hcur1⟩ : ∃ cur1, (cur.toList.take (o + i * 2) ++ flatS (ms.drop j) ++ cur.toList.drop (o + i * 2 + (n - j) * 2)).toArray = cur1 := ⟨_, rfl⟩
  rw [hcur1] at hr
  have hs1 : cur1.size = cur.size := by
    rw [← hcur1]
    simp only [List.size_toArray, List.length_append, List.length_take, List.length_drop, Array.length_toList, hl2]
    omega
  have ht1 : (cur1.toList.drop o).take ((i + (n - j)) * 2) = flatS (ms.take i ++ ms.drop j) := by
    rw [← hcur1]
    show List.take _ (List.drop o (_ : List Value)) = _
    have h := drop_take_put cur.toList (flatS (ms.drop j)) o (i * 2) (o + i * 2 + (n - j) * 2) (by rw [Array.length_toList]; omega)
    rw [hl2] at h
    rw [Nat.add_mul, h, take_front ht (by omega), flatS_take, flatS_append]
  have hg1 : (w.drew.setRow g cur1).heap[g]? = some (.cells cur1 84 (0, 0)) := setRow_heap w.drew g cur cur1 _ _ hg
  have hc := fun ty => run_clear_segs (w.drew.setRow g cur1) ty g (o + (i + (n - j)) * 2) (n - (i + (n - j))) (cap - (i + (n - j))) cur1 hg1 (by omega)
  refine ⟨A, w.drew.setRow g cur1, _, hA, hr, hc, ?_, ?_⟩
  · obtain ⟨c2, hc2⟩ : ∃ c2, cur1.toList.drop (o + (i + (n - j)) * 2 + (n - (i + (n - j))) * 2) = c2 := ⟨_, rfl⟩
    refine hO.wrote hg (setRow_heap _ g cur1 _ _ _ hg1) ?_ ?_ (by omega) ?_
    · simp only [List.size_toArray, List.length_append, List.length_take, List.length_drop, Array.length_toList, noSegs_length]
      omega
    · rw [flatS_length, List.length_append, List.length_take, List.length_drop, hn]
      omega
    · rw [hc2]
      show List.take _ (List.drop o (_ : List Value)) = _
      rw [drop_take_front _ _ _ _ _ (by rw [Array.length_toList]; omega), ht1]
  · have e0 : w.grownBy w.drew (some g) := ⟨rfl, rfl, rfl, Nat.le_refl _, fun _ _ _ => rfl⟩
    exact grownBy_trans (grownBy_trans e0 (setRow_by _ _ _)) (setRow_by _ _ _)

set_option maxRecDepth 100000 in
set_option maxHeartbeats 4000000 in
theorem delete_calls (base g o cap n i j : Nat) (ms : List SV) (hv1 : ∀ p ∈ ms, p.2.oneCell' = true) (w : World) (hn : ms.length = n) (hij : i < j) (hj : j ≤ n) (hO : Seg w base 84 2 (.slice (some ⟨g, o, none⟩) n cap) n (flatS ms)) :
    Calls Tryz.prog 75 #[.slice (some ⟨g, o, none⟩) n cap, .int .i64 (i : Nat), .int .i64 (j : Nat)] w (Deleted w base g o cap (i + (n - j)) (ms.take i ++ ms.drop j)) := by
  obtain ⟨g', o', cur, he, hbg, hg, hnc, hcm, hfit, ht⟩ := hO.at (by omega)
  simp only [Option.some.injEq, Addr.mk.injEq, and_true] at he
  obtain ⟨rfl, rfl⟩ := he
  obtain ⟨A, W1, W2, hA, hr, hc, h1, h2⟩ := delete_facts base g o cap n i j ms hv1 w hn (by omega) hj cur hO hg hnc hfit ht
  have HR := Lib.hid hr
  have HDONE := Lib.hid (And.intro h1 h2)
  have hic : i ≤ cap := by omega
  have hjc : j ≤ cap := by omega
  unfold maxLen at hcm
  clear hr h1 h2 hO hg hfit ht hn hv1
  go_enter Tryz.func75, Tryz.ntmps75
  go_wp2_with fail
  go_region_law (refine step_append_ran rfl _ _ _ rfl rfl rfl (HR.out _) ?_)
  go_wp2
  go_ret
  exact ⟨rfl, HDONE.out⟩

/-- The segments from a place on, and those ahead of another, together. -/
theorem SegsAt.one {W : World} {base : Nat} {v : Value} {l : List SV} (h : SegsAt W base v l) : ∀ p ∈ l, p.2.oneCell' = true := fun p hp => by
  obtain ⟨A, c, hv⟩ := rowForm (h.2 p hp)
  rw [hv]; rfl
theorem SegsAt.apart {W : World} {base : Nat} {v : Value} {l : List SV} (h : SegsAt W base v l) : ∀ p ∈ l, ∀ g, p.2.ownBlock = some g → v.ownBlock ≠ some g := fun p hp g hg hv => by
  obtain ⟨_, _, cur, h6⟩ := (h.2 p hp).own g hg
  obtain ⟨_, _, cur', h7⟩ := h.1.own g hv
  rw [h6] at h7
  simp only [Option.some.injEq, Obj.cells.injEq] at h7
  exact absurd h7.2.1 (by decide)
theorem cutOut_calls (base g o cap n i j : Nat) (ms : List SV) (w : World) (hn : ms.length = n) (hij : i < j) (hj : j ≤ n) (hO : SegsAt w base (.slice (some ⟨g, o, none⟩) n cap) ms) :
    Calls Tryz.prog 75 #[.slice (some ⟨g, o, none⟩) n cap, .int .i64 (i : Nat), .int .i64 (j : Nat)] w fun e W =>
      e = .returned (.slice (some ⟨g, o, none⟩) (i + (n - j)) cap) ∧ SegsAt W base (.slice (some ⟨g, o, none⟩) (i + (n - j)) cap) (ms.take i ++ ms.drop j) ∧ w.grownBy W (some g) := by
  have hlen : (ms.take i ++ ms.drop j).length = i + (n - j) := by rw [List.length_append, List.length_take, List.length_drop, hn]; omega
  refine (delete_calls base g o cap n i j ms hO.one w hn hij hj (by have h := hO.1; rwa [hn] at h)).mono ?_
  rintro e W ⟨rfl, h1, h2⟩
  refine ⟨rfl, ⟨by rw [hlen]; exact h1, fun p hp => ?_⟩, h2⟩
  have hp' : p ∈ ms := by
    rcases List.mem_append.1 hp with h | h
    · exact List.mem_of_mem_take h
    · exact List.mem_of_mem_drop h
  exact (hO.2 p hp').keep fun b hb => h2.block b ((hO.2 p hp').own b hb).2.1 (fun e => hO.apart p hp' b hb e.symm)

set_option maxRecDepth 100000 in
set_option maxHeartbeats 1000000 in
theorem cutNone_calls (A : Option Addr) (n c : Nat) (hc : n ≤ c) (hl : c ≤ 9223372036854775807) (w : World) :
    Calls Tryz.prog 75 #[.slice A n c, .int .i64 0, .int .i64 0] w fun e W => e = .returned (.slice A n c) ∧ Below w.heap.size w W := by
  have hcI : (n : Int) ≤ (c : Int) := by omega
  have hlI : (c : Int) ≤ 9223372036854775807 := by omega
  clear hc hl
  have HB : Hid (Below w.heap.size w w) := Lib.hid (Below.refl _ _)
  go_enter Tryz.func75, Tryz.ntmps75
  go_wp2_with fail
  go_ret
  exact ⟨rfl, HB.out⟩

end Go.Proofs.YtnhkpemajknfnaaGreatDoor.Seglog

/-
  Contracts of byBase, of slices.BinarySearchFunc at segments, and of the log's ahead.
-/
namespace Go.Proofs.YtnhkpemajknfnaaGreatDoor.Seglog
open Go Go.RowKit Go.Lib Go.Proofs.YtnhkpemajknfnaaGreatDoor.Law Go.Proofs.YtnhkpemajknfnaaGreatDoor.Disk

/-- What cmp.Compare answers. -/
def cmpN (a b : Nat) : Int := if a < b then -1 else if b < a then 1 else 0

set_option maxRecDepth 100000 in
set_option maxHeartbeats 1000000 in
theorem compare_calls (a b : Nat) (w : World) : Calls Tryz.prog 64 #[.int .i64 (a : Nat), .int .i64 (b : Nat)] w fun e W => e = .returned (.int .i64 (cmpN a b)) ∧ Below w.heap.size w W := by
  have HN : Hid (∀ x : Nat, ∀ W : World, Calls Tryz.prog 85 #[.int .i64 (x : Nat)] W fun e W' => e = .returned (.bool false) ∧ W' = W) := Lib.hid fun x W => by
    go_enter Tryz.func85, Tryz.ntmps85
    go_wp2_with fail
    go_ret
    exact ⟨rfl, rfl⟩
  have HB : Hid (Below w.heap.size w w) := Lib.hid (Below.refl _ _)
  rcases (show a < b ∨ b < a ∨ a = b by omega) with h | h | h
  · have h1 : (a : Int) < (b : Int) := by omega
    rw [cmpN, if_pos h]
    clear h
    go_enter Tryz.func64, Tryz.ntmps64
    go_wp2_with fail
    refine (HN.out a _).mono ?_
    rintro e W ⟨rfl, rfl⟩
    go_wp2_with fail
    refine (HN.out b _).mono ?_
    rintro e W ⟨rfl, rfl⟩
    go_wp2_with fail
    go_ret
    exact ⟨rfl, HB.out⟩
  · have h1 : ¬ (a : Int) < (b : Int) := by omega
    have h2 : (b : Int) < (a : Int) := by omega
    rw [cmpN, if_neg (by omega), if_pos h]
    clear h
    go_enter Tryz.func64, Tryz.ntmps64
    go_wp2_with fail
    refine (HN.out a _).mono ?_
    rintro e W ⟨rfl, rfl⟩
    go_wp2_with fail
    refine (HN.out b _).mono ?_
    rintro e W ⟨rfl, rfl⟩
    go_wp2_with fail
    go_ret
    exact ⟨rfl, HB.out⟩
  · subst h
    have h1 : ¬ (a : Int) < (a : Int) := by omega
    rw [cmpN, if_neg (by omega), if_neg (by omega)]
    go_enter Tryz.func64, Tryz.ntmps64
    go_wp2_with fail
    refine (HN.out a _).mono ?_
    rintro e W ⟨rfl, rfl⟩
    go_wp2_with fail
    refine (HN.out a _).mono ?_
    rintro e W ⟨rfl, rfl⟩
    go_wp2_with fail
    go_ret
    exact ⟨rfl, HB.out⟩

set_option maxRecDepth 100000 in
set_option maxHeartbeats 1000000 in
theorem byBase_calls (a b n m c d : Nat) (A B : Option Addr) (w : World) : Calls Tryz.prog 73 #[segV a A n c, segV b B m d] w fun e W => e = .returned (.int .i64 (cmpN a b)) ∧ Below w.heap.size w W := by
  have HC : Hid (∀ W, Calls Tryz.prog 64 #[.int .i64 (a : Nat), .int .i64 (b : Nat)] W fun e W' => e = .returned (.int .i64 (cmpN a b)) ∧ Below W.heap.size W W') := Lib.hid fun W => compare_calls a b W
  generalize cmpN a b = r at HC ⊢
  go_enter Tryz.func73, Tryz.ntmps73
  go_wp2_with fail
  refine (HC.out _).mono ?_
  rintro e W ⟨rfl, hB⟩
  have HB := Lib.hid hB
  clear hB
  go_wp2_with fail
  go_ret
  first | exact ⟨rfl, HB.out⟩ | exact ⟨rfl, (((Below.refl _ _).alloc (Nat.le_refl _) _).trans (HB.out.mono (by simp only [World.size_alloc]; omega)))⟩ | exact ⟨rfl, ((((Below.refl _ _).alloc (Nat.le_refl _) _).alloc (by simp) _).trans (HB.out.mono (by simp only [World.size_alloc]; omega)))⟩

/-- How many segments begin ahead of a place. -/
def cntL (l : List SV) (a : Nat) : Nat := (l.filter fun p => decide (p.1.base < a)).length
/-- Segments that rise. -/
def Rising (l : List SV) : Prop := ∀ (i j : Nat) (x y : SV), i ≤ j → l[i]? = some x → l[j]? = some y → x.1.base ≤ y.1.base
theorem cnt_boundary : ∀ (l : List SV) (a i : Nat), i ≤ l.length → (∀ t x, t < i → l[t]? = some x → x.1.base < a) → (∀ t x, i ≤ t → l[t]? = some x → a ≤ x.1.base) → cntL l a = i
  | [], a, i, hi, _, _ => by simp at hi; simp [hi, cntL]
  | p :: r, a, 0, _, _, h2 => by
    unfold cntL
    rw [List.length_eq_zero_iff, List.filter_eq_nil_iff]
    intro x hx
    obtain ⟨t, ht⟩ := List.getElem?_of_mem hx
    have := h2 t x (Nat.zero_le _) ht
    simp; omega
  | p :: r, a, i + 1, hi, h1, h2 => by
    have hp := h1 0 p (Nat.succ_pos _) rfl
    have ih := cnt_boundary r a i (by simpa using hi) (fun t x ht hx => h1 (t + 1) x (by omega) (by simpa using hx)) (fun t x h3 hx => h2 (t + 1) x (by omega) (by simpa using hx))
    unfold cntL at ih ⊢
    rw [List.filter_cons_of_pos (by simpa using hp), List.length_cons, ih]

end Go.Proofs.YtnhkpemajknfnaaGreatDoor.Seglog

/-
  Contract of slices.BinarySearchFunc at segments, and of the log's ahead.
-/
namespace Go.Proofs.YtnhkpemajknfnaaGreatDoor.Seglog
open Go Go.RowKit Go.Lib Go.Sort Go.Proofs.YtnhkpemajknfnaaGreatDoor.Law Go.Proofs.YtnhkpemajknfnaaGreatDoor.Disk

theorem SegsAt.below {W W' : World} {base : Nat} {v : Value} {l : List SV} (h : SegsAt W base v l) (hB : Below W.heap.size W W') : SegsAt W' base v l :=
  ⟨h.1.below hB, fun p hp => (h.2 p hp).below hB⟩

/-- What a search tells. -/
def Found (w : World) (n : Nat) (e : Ending) (W : World) : Prop := ∃ b : Bool, e = .returned (.tuple #[.int .i64 (n : Nat), .bool b]) ∧ Below w.heap.size w W

/-- An element of the row, as a search reads it. -/
theorem SegsAt.elem {W : World} {base n cap g o : Nat} {l : List SV} (h : SegsAt W base (.slice (some ⟨g, o, none⟩) n cap) l) (hn : l.length = n) {i : Nat} (hi : i < n) :
    ∃ (x : SV) (A : Option Addr) (k c : Nat), l[i]? = some x ∧ W.cell? ⟨g, o + i * 2, none⟩ = some (.int .i64 (x.1.base : Nat)) ∧ W.cell? ⟨g, o + i * 2 + 1, none⟩ = some (.slice A k c) := by
  have hi' : i < l.length := by omega
  obtain ⟨_, g', o', hA, _, h1, h2⟩ := h.cell hn hi'
  simp only [Option.some.injEq, Addr.mk.injEq, and_true] at hA
  obtain ⟨rfl, rfl⟩ := hA
  obtain ⟨A, c, hv⟩ := rowForm (h.2 l[i] (List.getElem_mem _))
  exact ⟨l[i], A, _, c, List.getElem?_eq_getElem hi', h1, by rw [h2, hv]⟩

set_option maxRecDepth 1000000 in
set_option maxHeartbeats 4000000 in
theorem search_calls (base n cap a g o : Nat) (l : List SV) (w : World) (hn : l.length = n) (h : SegsAt w base (.slice (some ⟨g, o, none⟩) n cap) l) (hr : Rising l) (hc : n ≤ cap) (hl : n ≤ 4294967296) :
    Calls Tryz.prog 72 #[.slice (some ⟨g, o, none⟩) n cap, segV a none 0 0, .func (.func 73) #[] #[]] w (Found w (cntL l a)) := by
  have eg : ∀ args w, (callFunc 73 args).run Tryz.prog w = .ok (.enter 73 args) w := enters_of Tryz.func73 (by kernel_rfl) rfl
  obtain ⟨cnt, hcnt⟩ : ∃ c, cntL l a = c := ⟨_, rfl⟩
  rw [hcnt]
  have CN := Lib.hid hcnt
  have H := Lib.hid h
  have HN := Lib.hid hn
  have M := Lib.hid hr
  have hcI : (n : Int) ≤ (cap : Int) := by omega
  have hlI : (n : Int) ≤ 4294967296 := by omega
  have HC : Hid (∀ (x k c : Nat) (A : Option Addr) (W : World), Calls Tryz.prog 73 #[segV x A k c, segV a none 0 0] W fun e W' => e = .returned (.int .i64 (cmpN x a)) ∧ Below W.heap.size W W') := Lib.hid fun x k c A W => byBase_calls x a k 0 c 0 A none W
  obtain ⟨q, hq⟩ : ∃ q, w.heap.size = q := ⟨_, rfl⟩
  have HQ := Lib.hid hq
  have hB0 : Below w.heap.size w (w.alloc (.cells #[.int .i64 (a : Nat), .slice none 0 0] 84)) := (Below.refl _ _).alloc (Nat.le_refl _) _
  have hX0 : (w.alloc (.cells #[.int .i64 (a : Nat), .slice none 0 0] 84)).heap[q]? = some (.cells #[.int .i64 (a : Nat), .slice none 0 0] 84 (0, 0)) := by rw [← hq]; exact heap_alloc_new w _
  have hS0 : (w.alloc (.cells #[.int .i64 (a : Nat), .slice none 0 0] 84)).heap.size = q + 1 := by simp [hq]
  have HB0 := Lib.hid hB0
  have HX0 := Lib.hid hX0
  have HS0 := Lib.hid hS0
  clear hB0 hX0 hS0
  clear h hn hr hcnt hl
  go_enter Tryz.func72, Tryz.ntmps72
  go_wp2_with fail
  have hB0 := HB0.out
  have hX0 := HX0.out
  have hS0 := HS0.out
  clear HB0 HX0 HS0
  generalize w.alloc (.cells #[.int .i64 (a : Nat), .slice none 0 0] 84) = w0 at hB0 hX0 hS0 ⊢
  have HB0 := Lib.hid hB0
  have HX0 := Lib.hid hX0
  have HS0 := Lib.hid hS0
  clear hB0 hX0 hS0 hq
  have HBW : Hid (∀ W, Below (q + 1) w0 W → Below w.heap.size w W) := Lib.hid fun W hW => HB0.out.trans (hW.mono (by rw [HQ.out]; omega))
  go_loopg [9, 10] n (fun kx s9 s10 wr => ∃ lo hi : Nat, s9 = .int .i64 lo ∧ s10 = .int .i64 hi ∧ lo ≤ hi ∧ hi ≤ n ∧ hi - lo ≤ kx ∧ Hid (Below (q + 1) w0 wr) ∧
    Hid ((∀ t x, t < lo → l[t]? = some x → x.1.base < a) ∧ (∀ t x, hi ≤ t → l[t]? = some x → a ≤ x.1.base)))
  case atStart => exact ⟨0, n, rfl, rfl, Nat.zero_le _, Nat.le_refl _, by omega, Lib.hid (Below.refl _ _), Lib.hid ⟨fun t x ht => absurd ht (Nat.not_lt_zero _), fun t x h1 h2 => by have := (List.getElem?_eq_some_iff.1 h2).1; rw [HN.out] at this; omega⟩⟩
  case round =>
    obtain ⟨lo, hi, rfl, rfl, hlh, hin, hg, S1, I⟩ := hrel
    obtain ⟨t0, t1, _, _⟩ := two2 ((S1.out.block q (by omega)).trans HX0.out)
    have hsz := S1.out.size
    rw [HS0.out] at hsz
    by_cases hlt : lo < hi
    · obtain ⟨m, hm⟩ : ∃ m : Nat, ((lo : Int) + (hi : Int)) / 2 = (m : Int) := ⟨(lo + hi) / 2, by omega⟩
      have hm1 : lo ≤ m := by omega
      have hm2 : m < hi := by omega
      have hm3 : (m : Int) < (n : Int) := by omega
      have hm4 : 0 ≤ (m : Int) := by omega
      obtain ⟨x, A1, k1, c1, hx, q0, q1⟩ := (H.out.below (HBW.out _ S1.out)).elem HN.out (i := m) (by omega)
      have HX := Lib.hid hx
      obtain ⟨X, hX⟩ : ∃ X, x.1.base = X := ⟨_, rfl⟩
      rw [hX] at q0
      have HXX := Lib.hid hX
      obtain ⟨r, hr⟩ : ∃ r, cmpN X a = r := ⟨_, rfl⟩
      have hcc := fun d os => Calls.regrown_of (d := d) (os := os) (HC.out X k1 c1 A1 (grow (redrawn wr d) os))
      rw [hr] at hcc
      have HCC := Lib.hid hcc
      have g0 := fun d os => cell_regrown q0 d os
      have g1 := fun d os => cell_regrown q1 d os
      have u0 := fun d os => cell_regrown t0 d os
      have u1 := fun d os => cell_regrown t1 d os
      have hrr : (r < 0 ↔ X < a) := by
        rw [← hr, cmpN]
        split
        · exact ⟨fun _ => by assumption, fun _ => by decide⟩
        · split
          · exact ⟨fun h => absurd h (by decide), fun h => by omega⟩
          · exact ⟨fun h => absurd h (by decide), fun h => by omega⟩
      have HRR := Lib.hid hrr
      clear hx hX hcc hr q0 q1 t0 t1 hrr
      by_cases hr0 : r < 0
      · go_wp2_with fail
        refine wp_region_quiet_below (by kernel_rfl) (by kernel_rfl) ?_
        repeat (go_big_quiet_step ((first | exact HCC.out _ _ | (go_at_fn 73; exact HCC.out _ _))))
        refine wpQuiet_nil ?_
        intro w' hw'
        obtain ⟨⟨d, os⟩, rfl⟩ := hw'
        have HB3 := Lib.hid (S1.out.trans ((below_regrown wr d os).mono hsz))
        clear HCC g0 g1 u0 u1 S1
        generalize grow (redrawn wr d) os = w3 at HB3 ⊢
        have hXa := HRR.out.1 hr0
        go_wp2_with fail
        go_roundg (hi - (m + 1))
        case measure => omega
        case rel =>
          have I2 : Hid ((∀ t x, t < m + 1 → l[t]? = some x → x.1.base < a) ∧ (∀ t x, hi ≤ t → l[t]? = some x → a ≤ x.1.base)) := Lib.hid ⟨fun t y ht hy => by have := M.out t m y x (by omega) hy HX.out; rw [HXX.out] at this; omega, I.out.2⟩
          exact ⟨m + 1, hi, by go_num, rfl, by omega, hin, Nat.le_refl _, HB3, I2⟩
      · go_wp2_with fail
        refine wp_region_quiet_below (by kernel_rfl) (by kernel_rfl) ?_
        repeat (go_big_quiet_step ((first | exact HCC.out _ _ | (go_at_fn 73; exact HCC.out _ _))))
        refine wpQuiet_nil ?_
        intro w' hw'
        obtain ⟨⟨d, os⟩, rfl⟩ := hw'
        have HB3 := Lib.hid (S1.out.trans ((below_regrown wr d os).mono hsz))
        clear HCC g0 g1 u0 u1 S1
        generalize grow (redrawn wr d) os = w3 at HB3 ⊢
        have hXa : ¬ X < a := fun h => absurd (HRR.out.2 h) (by omega)
        go_wp2_with fail
        go_roundg (m - lo)
        case measure => omega
        case rel =>
          have I2 : Hid ((∀ t x, t < lo → l[t]? = some x → x.1.base < a) ∧ (∀ t x, m ≤ t → l[t]? = some x → a ≤ x.1.base)) := Lib.hid ⟨I.out.1, fun t y ht hy => by have := M.out m t x y ht HX.out hy; rw [HXX.out] at this; omega⟩
          exact ⟨lo, m, rfl, rfl, by omega, by omega, Nat.le_refl _, HB3, I2⟩
    · obtain rfl : hi = lo := by omega
      have ecnt : cnt = hi := by
        rw [← CN.out]
        exact cnt_boundary l a hi (by rw [HN.out]; exact hin) I.out.1 I.out.2
      subst ecnt
      by_cases hlt2 : cnt < n
      · obtain ⟨x, A1, k1, c1, hx, q0, q1⟩ := (H.out.below (HBW.out _ S1.out)).elem HN.out (i := cnt) hlt2
        have hlt3 : (cnt : Int) < (n : Int) := by omega
        generalize x.1.base = X at q0
        obtain ⟨r, hr⟩ : ∃ r, cmpN X a = r := ⟨_, rfl⟩
        have hcc := fun d os => Calls.regrown_of (d := d) (os := os) (HC.out X k1 c1 A1 (grow (redrawn wr d) os))
        rw [hr] at hcc
        have HCC := Lib.hid hcc
        have g0 := fun d os => cell_regrown q0 d os
        have g1 := fun d os => cell_regrown q1 d os
        have u0 := fun d os => cell_regrown t0 d os
        have u1 := fun d os => cell_regrown t1 d os
        clear hx hcc hr q0 q1 t0 t1
        have hd : decide ((cnt : Int) < (n : Int)) = true := decide_eq_true hlt3
        go_wp2_with fail
        refine wp_region_quiet_below (by kernel_rfl) (by kernel_rfl) ?_
        repeat (go_big_quiet_step ((first | exact HCC.out _ _ | (go_at_fn 73; exact HCC.out _ _))))
        refine wpQuiet_nil ?_
        intro w' hw'
        obtain ⟨⟨d, os⟩, rfl⟩ := hw'
        have HB3 := Lib.hid (S1.out.trans ((below_regrown wr d os).mono hsz))
        clear HCC g0 g1 u0 u1 S1
        generalize grow (redrawn wr d) os = w3 at HB3 ⊢
        go_wp2_with fail
        go_ret2
        exact ⟨_, rfl, HBW.out _ HB3.out⟩
      · have hd : decide ((cnt : Int) < (n : Int)) = false := decide_eq_false (by omega)
        clear t0 t1
        go_wp2_with fail
        refine wp_region_quiet_below (by kernel_rfl) (by kernel_rfl) ?_
        repeat (go_big_quiet_step (fail))
        refine wpQuiet_nil ?_
        intro w' hw'
        obtain ⟨⟨d, os⟩, rfl⟩ := hw'
        have HB3 := Lib.hid (S1.out.trans ((below_regrown wr d os).mono hsz))
        clear S1
        generalize grow (redrawn wr d) os = w3 at HB3 ⊢
        go_wp2_with fail
        go_ret2
        exact ⟨_, rfl, HBW.out _ HB3.out⟩

set_option maxRecDepth 100000 in
set_option maxHeartbeats 2000000 in
/-- How many segments begin ahead of a place (of a log that isn't empty). -/
theorem ahead_calls {R : Nat → Prop} {base lb db room : Nat} {p : ByteArray} {bk : Bool} {w : World} {v : Value} {l : List SV} (h : LogIn R base lb db p room bk w v l) (hl : 0 < l.length) (hr : Rising l) (a : Nat) (hcap : l.length ≤ 4294967296) :
    Calls Tryz.prog 47 #[.pointer (some ⟨lb, 0, none⟩), .int .i64 (a : Nat)] w fun e W => e = .returned (.int .i64 (cntL l a : Nat)) ∧ Below w.heap.size w W := by
  obtain ⟨⟨_, _, _, c3, _⟩, _⟩ := h.block.cells
  obtain ⟨A, cap, rfl⟩ := rowForm h.segs.1
  obtain ⟨hc, g, o, rfl, _, _⟩ := h.segs.cell (i := 0) rfl hl
  have CS := Lib.hid (search_calls base l.length cap a g o l w rfl h.segs hr hc hcap)
  obtain ⟨n, hn⟩ : ∃ n, l.length = n := ⟨_, rfl⟩
  rw [hn] at c3 CS
  generalize cntL l a = cnt at CS ⊢
  clear h hr hcap hc hn
  go_enter Tryz.func47, Tryz.ntmps47
  go_wp2_with fail
  refine CS.out.mono ?_
  rintro e W ⟨b, rfl, hB⟩
  have HB := Lib.hid hB
  clear hB CS
  go_wp2_with fail
  go_ret
  exact ⟨rfl, HB.out⟩

end Go.Proofs.YtnhkpemajknfnaaGreatDoor.Seglog
