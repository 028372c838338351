/-
  Contract of slices.Delete at messages.
-/
import Derived.Test.YtjcgkjjomiapoaaMailTwice
import Derived.Shelf.RegionOpen
namespace Go.Proofs.Ytjcgkjjomiapoaa.Mail
open Go Go.RowKit Go.Proofs.Ytjcgkjjomiapoaa.Law

theorem drop_take_front (l ys r : List Value) (o a : Nat) (hm : o + a ≤ l.length) : ((l.take (o + a) ++ ys ++ r).drop o).take a = (l.drop o).take a := by
  have h1 : (l.take (o + a)).length = o + a := by rw [List.length_take]; omega
  rw [List.append_assoc, List.drop_append_of_le_length (by omega)]
  have h2 : ((l.take (o + a)).drop o) = (l.drop o).take a := by rw [List.drop_take]; congr 1; omega
  have h3 : ((l.drop o).take a).length = a := by rw [List.length_take, List.length_drop]; omega
  rw [h2, List.take_append_of_le_length (by omega), List.take_take, Nat.min_self]

theorem take_front {l xs : List Value} {o m a : Nat} (h : (l.drop o).take m = xs) (ha : a ≤ m) : (l.drop o).take a = xs.take a := by
  rw [← h, List.take_take, Nat.min_eq_left ha]

theorem zero_msg (w : World) : (zeroValue 68).run Try.prog w = .ok (.agg #[.int .i64 0, .int .i64 0, .string ⟨#[]⟩]) w := by kernel_rfl

/-- n messages that are none, as cells. -/
def noMsgs (n : Nat) : List Value := flatM (List.replicate n ⟨0, 0, ⟨#[]⟩⟩)
theorem noMsgs_length (n : Nat) : (noMsgs n).length = n * 3 := by unfold noMsgs; rw [flatM_length, List.length_replicate]
theorem map_cycle (f : Nat → Value) (hf : ∀ i, f (3 + i) = f i) : ∀ n : Nat, (List.range (n * 3)).map f = (List.replicate n [f 0, f 1, f 2]).flatten
  | 0 => rfl
  | n + 1 => by
    rw [show (n + 1) * 3 = 3 + n * 3 by omega, List.range_add, List.map_append, List.map_map, List.replicate_succ, List.flatten_cons, ← map_cycle f hf n]
    congr 1
    apply List.map_congr_left
    intro i _
    exact hf i
theorem flat_replicate : ∀ n : Nat, (List.replicate n ([Value.int .i64 0, .int .i64 0, .string ⟨#[]⟩] : List Value)).flatten = noMsgs n
  | 0 => rfl
  | n + 1 => by
    rw [List.replicate_succ, List.flatten_cons, flat_replicate n]
    unfold noMsgs
    rw [List.replicate_succ]; rfl
theorem zeroCells_msgs (n : Nat) : (Builtin.zeroCells (Value.agg #[.int .i64 0, .int .i64 0, .string ⟨#[]⟩]).cells n).toList = noMsgs n := by
  rw [← flat_replicate]
  have hc : (Value.agg #[.int .i64 0, .int .i64 0, .string ⟨#[]⟩]).cells = #[.int .i64 0, .int .i64 0, .string ⟨#[]⟩] := rfl
  rw [hc]
  simp [Builtin.zeroCells]
  exact map_cycle _ (fun i => by rw [Nat.add_mod_left]) n

theorem run_clear_msgs (w : World) (ty : TypeId) (g o n c : Nat) (cur : Array Value) (hg : w.heap[g]? = some (.cells cur 68 (0, 0))) (hfit : o + n * 3 ≤ cur.size) :
    (Builtin.clear_ #[63] ty #[.slice (some ⟨g, o, none⟩) n c]).run Try.prog w = .ok (.tuple #[]) (w.setRow g (cur.toList.take o ++ noMsgs n ++ cur.toList.drop (o + n * 3)).toArray) := by
  cases n with
  | zero =>
    have : w.setRow g (cur.toList.take o ++ noMsgs 0 ++ cur.toList.drop (o + 0 * 3)).toArray = w := by
      have e : (cur.toList.take o ++ noMsgs 0 ++ cur.toList.drop (o + 0 * 3)).toArray = cur := by simp [noMsgs, flatM]
      rw [e]; exact setRow_self w g cur _ _ hg
    rw [this]
    simp [Builtin.clear_, run_underlying Try.underlying63]
  | succ n =>
    have hst := run_storeCells_at Try.prog g o 68 (noMsgs (n + 1)) 0 cur w hg (by rw [noMsgs_length]; simpa using hfit) (flatM_one _)
    rw [noMsgs_length] at hst
    simp only [Nat.add_zero] at hst
    rw [← zeroCells_msgs] at hst ⊢
    simp [Builtin.clear_, run_underlying Try.underlying63, hst]

/-- What Delete leaves. -/
def Deleted (w : World) (base g o cap n : Nat) (ms : List Msg) (e : Ending) (W : World) : Prop :=
  e = .returned (.slice (some ⟨g, o, none⟩) n cap) ∧ Seg W base 68 3 (.slice (some ⟨g, o, none⟩) n cap) n (flatM ms) ∧ w.grownBy W (some g)

theorem grownBy_trans {a b c : World} {r : Option Nat} (h : a.grownBy b r) (k : b.grownBy c r) : a.grownBy c r :=
  ⟨k.os.trans h.os, k.tape.trans h.tape, k.output.trans h.output, Nat.le_trans h.size k.size, fun j hj hr => (k.block j (Nat.lt_of_lt_of_le hj h.size) hr).trans (h.block j hj hr)⟩

theorem delete_facts (base g o cap n i j : Nat) (ms : List Msg) (w : World) (hn : ms.length = n) (hij : i ≤ j) (hj : j ≤ n) (cur : Array Value) (hO : Seg w base 68 3 (.slice (some ⟨g, o, none⟩) n cap) n (flatM ms)) (hg : w.heap[g]? = some (.cells cur 68 (0, 0))) (hnc : n ≤ cap) (hfit : o + cap * 3 ≤ cur.size)
    (ht : (cur.toList.drop o).take (n * 3) = flatM ms) :
    ∃ (A : Addr) (W1 W2 : World), (if cap = j then some (⟨g, o, none⟩ : Addr) else some ⟨g, o + j * 3, none⟩) = some A ∧
      (∀ ty, (Builtin.append_ #[63, 63] ty #[.slice (some ⟨g, o, none⟩) i cap, .slice (some A) (n - j) (cap - j)]).run Try.prog w.drew = .ok (.slice (some ⟨g, o, none⟩) (i + (n - j)) cap) W1) ∧
      (∀ ty, (Builtin.clear_ #[63] ty #[.slice (some ⟨g, o + (i + (n - j)) * 3, none⟩) (n - (i + (n - j))) (cap - (i + (n - j)))]).run Try.prog W1 = .ok (.tuple #[]) W2) ∧
      Seg W2 base 68 3 (.slice (some ⟨g, o, none⟩) (i + (n - j)) cap) (i + (n - j)) (flatM (ms.take i ++ ms.drop j)) ∧ w.grownBy W2 (some g) := by
  obtain ⟨i0, hi, hz0, hz1, hz2⟩ := info_parts info_message
  have hl : (flatM (ms.drop j)).length = (n - j) * i0.size := by rw [flatM_length, List.length_drop, hn, hz1]
  have hl3 : (flatM (ms.drop j)).length = (n - j) * 3 := by rw [flatM_length, List.length_drop, hn]
  have hsrc : ∃ A : Addr, (if cap = j then some (⟨g, o, none⟩ : Addr) else some ⟨g, o + j * 3, none⟩) = some A ∧ (∀ t u, (flatM (ms.drop j))[t]? = some u → w.drew.cell? (A.add t) = some u) := by
    by_cases h : cap = j
    · refine ⟨⟨g, o, none⟩, by simp [h], fun t u hu => ?_⟩
      have h0 : (flatM (ms.drop j)).length = 0 := by rw [hl3]; omega
      rw [List.length_eq_zero_iff.1 h0] at hu
      simp at hu
    · refine ⟨⟨g, o + j * 3, none⟩, by simp [h], fun t u hu => ?_⟩
      rw [← flatM_drop, List.getElem?_drop] at hu
      rw [Addr.add_lit, Nat.add_assoc]
      exact (hO.cell hu).1
  obtain ⟨A, hA, hsrc⟩ := hsrc
  have hmul : i * 3 + (n - j) * 3 ≤ cap * 3 := by omega
  have hr := fun ty => run_append_room_off (P := Try.prog) w.drew 63 ty 68 i0 Try.underlying63 hi g o i cap cur hg A (n - j) (cap - j) (flatM (ms.drop j)) hl hsrc (flatM_one _) (by omega) (by rw [hz1, hl3]; omega)
  rw [hz1, hl3] at hr
  obtain ⟨cur1, hcur1⟩ : ∃ cur1, (cur.toList.take (o + i * 3) ++ flatM (ms.drop j) ++ cur.toList.drop (o + i * 3 + (n - j) * 3)).toArray = cur1 := ⟨_, rfl⟩
  rw [hcur1] at hr
  have hs1 : cur1.size = cur.size := by
    rw [← hcur1]
    simp only [List.size_toArray, List.length_append, List.length_take, List.length_drop, Array.length_toList, hl3]
    omega
  have ht1 : (cur1.toList.drop o).take ((i + (n - j)) * 3) = flatM (ms.take i ++ ms.drop j) := by
    rw [← hcur1]
    show List.take _ (List.drop o (_ : List Value)) = _
    have h := drop_take_put cur.toList (flatM (ms.drop j)) o (i * 3) (o + i * 3 + (n - j) * 3) (by rw [Array.length_toList]; omega)
    rw [hl3] at h
    rw [Nat.add_mul, h, take_front ht (by omega), flatM_take, flatM_append]
  have hg1 : (w.drew.setRow g cur1).heap[g]? = some (.cells cur1 68 (0, 0)) := setRow_heap w.drew g cur cur1 _ _ hg
  have hc := fun ty => run_clear_msgs (w.drew.setRow g cur1) ty g (o + (i + (n - j)) * 3) (n - (i + (n - j))) (cap - (i + (n - j))) cur1 hg1 (by omega)
  refine ⟨A, w.drew.setRow g cur1, _, hA, hr, hc, ?_, ?_⟩
  · obtain ⟨c2, hc2⟩ : ∃ c2, cur1.toList.drop (o + (i + (n - j)) * 3 + (n - (i + (n - j))) * 3) = c2 := ⟨_, rfl⟩
    refine hO.wrote hg (setRow_heap _ g cur1 _ _ _ hg1) ?_ ?_ (by omega) ?_
    · simp only [List.size_toArray, List.length_append, List.length_take, List.length_drop, Array.length_toList, noMsgs_length]
      omega
    · rw [flatM_length, List.length_append, List.length_take, List.length_drop, hn]
      omega
    · rw [hc2]
      show List.take _ (List.drop o (_ : List Value)) = _
      rw [drop_take_front _ _ _ _ _ (by rw [Array.length_toList]; omega), ht1]
  · have e0 : w.grownBy w.drew (some g) := ⟨rfl, rfl, rfl, Nat.le_refl _, fun _ _ _ => rfl⟩
    exact grownBy_trans (grownBy_trans e0 (setRow_by _ _ _)) (setRow_by _ _ _)

set_option maxRecDepth 100000 in
set_option maxHeartbeats 4000000 in
theorem delete_calls (base g o cap n i j : Nat) (ms : List Msg) (w : World) (hn : ms.length = n) (hij : i < j) (hj : j ≤ n) (hO : Seg w base 68 3 (.slice (some ⟨g, o, none⟩) n cap) n (flatM ms)) :
    Calls Try.prog 36 #[.slice (some ⟨g, o, none⟩) n cap, .int .i64 (i : Nat), .int .i64 (j : Nat)] w (Deleted w base g o cap (i + (n - j)) (ms.take i ++ ms.drop j)) := by
  obtain ⟨g', o', cur, he, hbg, hg, hnc, hcm, hfit, ht⟩ := hO.at (by omega)
  simp only [Option.some.injEq, Addr.mk.injEq, and_true] at he
  obtain ⟨rfl, rfl⟩ := he
  obtain ⟨A, W1, W2, hA, hr, hc, h1, h2⟩ := delete_facts base g o cap n i j ms w hn (by omega) hj cur hO hg hnc hfit ht
  have HR := Lib.hid hr
  have HDONE := Lib.hid (And.intro h1 h2)
  have hic : i ≤ cap := by omega
  have hjc : j ≤ cap := by omega
  unfold maxLen at hcm
  clear hr h1 h2 hO hg hfit ht hn
  go_enter Try.func36, Try.ntmps36
  go_wp2_with fail
  go_region_law (refine step_append_ran rfl _ _ _ rfl rfl rfl (HR.out _) ?_)
  go_wp2
  go_ret
  exact ⟨rfl, HDONE.out⟩

end Go.Proofs.Ytjcgkjjomiapoaa.Mail
