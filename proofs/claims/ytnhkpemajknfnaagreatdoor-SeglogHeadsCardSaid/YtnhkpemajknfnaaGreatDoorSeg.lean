/-
  A row of the call's own whose slice may begin anywhere in its block (what 's = s[1:]' leaves): appended to, written over, shortened. Of whatever program.
-/
import Derived.Test.YtnhkpemajknfnaaGreatDoorCells
namespace Go.Proofs.YtnhkpemajknfnaaGreatDoor.Law
open Go Go.RowKit

def Seg (W : World) (base : Nat) (e : TypeId) (size : Nat) (v : Value) (n : Nat) (xs : List Value) : Prop :=
  xs.length = n * size ∧ ((v = .slice none 0 0 ∧ n = 0) ∨
    ∃ g o cap cur, v = .slice (some ⟨g, o, none⟩) n cap ∧ base ≤ g ∧ W.heap[g]? = some (.cells cur e (0, 0)) ∧ n ≤ cap ∧ cap ≤ maxLen ∧ o + cap * size ≤ cur.size ∧ (cur.toList.drop o).take (n * size) = xs)

theorem Seg.nil (W : World) (base : Nat) (e : TypeId) (size : Nat) : Seg W base e size (.slice none 0 0) 0 [] := ⟨by simp, .inl ⟨rfl, rfl⟩⟩
theorem Seg.own {W : World} {base size n : Nat} {e : TypeId} {v : Value} {xs : List Value} (h : Seg W base e size v n xs) : ∀ g, v.ownBlock = some g → base ≤ g ∧ g < W.heap.size ∧ ∃ cur, W.heap[g]? = some (.cells cur e (0, 0)) := fun g hg => by
  rcases h.2 with ⟨rfl, _⟩ | ⟨g', o, cap, cur, rfl, hb, hh, _⟩
  · cases hg
  · simp only [Value.ownBlock, Option.some.injEq] at hg
    subst hg
    exact ⟨hb, (Array.getElem?_eq_some_iff.1 hh).1, cur, hh⟩
theorem Seg.form {W : World} {base size n : Nat} {e : TypeId} {v : Value} {xs : List Value} (h : Seg W base e size v n xs) : ∃ A cap, v = .slice A n cap ∧ n ≤ cap := by
  rcases h.2 with ⟨rfl, rfl⟩ | ⟨g', o, cap, cur, rfl, hb, hh, hn, _⟩
  · exact ⟨none, 0, rfl, Nat.le_refl _⟩
  · exact ⟨_, cap, rfl, hn⟩
theorem Seg.keep {W W' : World} {base size n : Nat} {e : TypeId} {v : Value} {xs : List Value} (h : Seg W base e size v n xs) (hb : ∀ g, v.ownBlock = some g → W'.heap[g]? = W.heap[g]?) : Seg W' base e size v n xs := by
  refine ⟨h.1, ?_⟩
  rcases h.2 with h0 | ⟨g, o, cap, cur, rfl, h1, h2, h3⟩
  · exact .inl h0
  · exact .inr ⟨g, o, cap, cur, rfl, h1, (hb g rfl).trans h2, h3⟩
theorem Seg.below {W W' : World} {base size n : Nat} {e : TypeId} {v : Value} {xs : List Value} (h : Seg W base e size v n xs) (hB : Below W.heap.size W W') : Seg W' base e size v n xs := h.keep fun g hg => hB.block g (h.own g hg).2.1
theorem Seg.at {W : World} {base size n cap : Nat} {e : TypeId} {A : Option Addr} {xs : List Value} (h : Seg W base e size (.slice A n cap) n xs) (hn : 0 < n) :
    ∃ g o cur, A = some ⟨g, o, none⟩ ∧ base ≤ g ∧ W.heap[g]? = some (.cells cur e (0, 0)) ∧ n ≤ cap ∧ cap ≤ maxLen ∧ o + cap * size ≤ cur.size ∧ (cur.toList.drop o).take (n * size) = xs := by
  rcases h.2 with ⟨_, h0⟩ | ⟨g, o, cap', cur, hv, h1⟩
  · omega
  · simp only [Value.slice.injEq, true_and] at hv
    obtain ⟨rfl, rfl⟩ := hv
    exact ⟨g, o, cur, rfl, h1⟩

theorem cur_get {cur : Array Value} {o m : Nat} {xs : List Value} (h : (cur.toList.drop o).take m = xs) {j : Nat} {u : Value} (hu : xs[j]? = some u) : cur[o + j]? = some u := by
  have hj : j < m := by
    have := (List.getElem?_eq_some_iff.1 hu).1
    rw [← h, List.length_take] at this
    omega
  rw [← h, List.getElem?_take, if_pos hj, List.getElem?_drop] at hu
  simpa using hu
theorem Seg.cell {W : World} {base size n cap g o : Nat} {e : TypeId} {xs : List Value} (h : Seg W base e size (.slice (some ⟨g, o, none⟩) n cap) n xs) {j : Nat} {u : Value} (hu : xs[j]? = some u) :
    W.cell? ⟨g, o + j, none⟩ = some u ∧ W.frozen? ⟨g, o + j, none⟩ = false := by
  rcases h.2 with ⟨hv, _⟩ | ⟨g', o', cap', cur, hv, _, hg, _, _, _, ht⟩
  · cases hv
  · simp only [Value.slice.injEq, Option.some.injEq, Addr.mk.injEq, and_true, true_and] at hv
    obtain ⟨⟨rfl, rfl⟩, rfl⟩ := hv
    have := cur_get ht hu
    constructor
    · simp [World.cell?, hg, this]
    · simp [World.frozen?, hg]

/-- A row written over where it lies. -/
theorem Seg.wrote {W W' : World} {base size n n' cap g o : Nat} {e : TypeId} {xs xs' : List Value} {cur cur' : Array Value} (h : Seg W base e size (.slice (some ⟨g, o, none⟩) n cap) n xs) (hg : W.heap[g]? = some (.cells cur e (0, 0)))
    (hg' : W'.heap[g]? = some (.cells cur' e (0, 0))) (hs : cur'.size = cur.size) (hl : xs'.length = n' * size) (hn : n' ≤ cap) (ht : (cur'.toList.drop o).take (n' * size) = xs') : Seg W' base e size (.slice (some ⟨g, o, none⟩) n' cap) n' xs' := by
  refine ⟨hl, ?_⟩
  rcases h.2 with ⟨hv, _⟩ | ⟨g', o', cap', cur0, hv, h1, h2, h3, h4, h5, h6⟩
  · cases hv
  · simp only [Value.slice.injEq, Option.some.injEq, Addr.mk.injEq, and_true, true_and] at hv
    obtain ⟨⟨rfl, rfl⟩, rfl⟩ := hv
    rw [hg] at h2
    simp only [Option.some.injEq, Obj.cells.injEq, and_true] at h2
    obtain rfl := h2
    exact .inr ⟨g, o, cap, cur', rfl, h1, hg', hn, h4, by omega, ht⟩

/-- The row without its first elements. -/
theorem Seg.tail {W : World} {base size n cap g o : Nat} {e : TypeId} {xs : List Value} (h : Seg W base e size (.slice (some ⟨g, o, none⟩) n cap) n xs) (k : Nat) (hk : k ≤ n) :
    Seg W base e size (.slice (some ⟨g, o + k * size, none⟩) (n - k) (cap - k)) (n - k) (xs.drop (k * size)) := by
  have hl := h.1
  refine ⟨by rw [List.length_drop, hl, Nat.sub_mul], ?_⟩
  rcases h.2 with ⟨hv, _⟩ | ⟨g', o', cap', cur0, hv, h1, h2, h3, h4, h5, h6⟩
  · cases hv
  · simp only [Value.slice.injEq, Option.some.injEq, Addr.mk.injEq, and_true, true_and] at hv
    obtain ⟨⟨rfl, rfl⟩, rfl⟩ := hv
    refine .inr ⟨g, o + k * size, cap - k, cur0, rfl, h1, h2, by omega, by omega, ?_, ?_⟩
    · have : (cap - k) * size + k * size = cap * size := by rw [← Nat.add_mul]; congr 1; omega
      omega
    · rw [← h6, List.drop_take, List.drop_drop, ← Nat.sub_mul]

theorem drop_take_put (l ys : List Value) (o a m : Nat) (hm : o + a ≤ l.length) : ((l.take (o + a) ++ ys ++ l.drop m).drop o).take (a + ys.length) = (l.drop o).take a ++ ys := by
  have h1 : (l.take (o + a)).length = o + a := by rw [List.length_take]; omega
  rw [List.append_assoc, List.drop_append_of_le_length (by omega)]
  have h2 : ((l.take (o + a)).drop o) = (l.drop o).take a := by rw [List.drop_take]; congr 1; omega
  rw [h2]
  have h3 : ((l.drop o).take a).length = a := by rw [List.length_take, List.length_drop]; omega
  rw [List.take_append, List.take_of_length_le (by omega), h3]
  congr 1
  rw [show a + ys.length - a = ys.length by omega, List.take_append_of_le_length (Nat.le_refl _), List.take_length]

section
variable {P : Program} (w : World)

theorem run_append_room_off (t ty e : TypeId) (i : TypeInfo) (ht : P.underlying t = some (.slice e)) (hi : P.info? e = some i)
    (g o sLen sCap : Nat) (cur : Array Value) (hg : w.heap[g]? = some (.cells cur e (0, 0)))
    (a : Addr) (m c : Nat) (news : List Value) (hl : news.length = m * i.size) (hnews : ∀ j u, news[j]? = some u → w.cell? (a.add j) = some u) (h1 : ∀ u ∈ news, u.oneCell' = true)
    (hroom : sLen + m ≤ sCap) (hfit : o + sLen * i.size + news.length ≤ cur.size) :
    (Builtin.append_ #[t, t] ty #[.slice (some ⟨g, o, none⟩) sLen sCap, .slice (some a) m c]).run P w =
      .ok (.slice (some ⟨g, o, none⟩) (sLen + m) sCap) (w.setRow g (cur.toList.take (o + sLen * i.size) ++ news ++ cur.toList.drop (o + sLen * i.size + news.length)).toArray) := by
  have hf := run_firstCells_some (P := P) w i.size m a m c news hl hnews
  have hst := run_storeCells_at P g (o + sLen * i.size) e news 0 cur w hg (by simpa using hfit) h1
  simp only [Nat.add_zero] at hst
  simp [Builtin.append_, run_underlying ht, sizeOf, typeInfo, hi, Builtin.lenOf, hroom, hf, Addr.add_lit, hst]

end

theorem setRow_by (W : World) (g : Nat) (cs : Array Value) : W.grownBy (W.setRow g cs) (some g) := by
  refine ⟨rfl, rfl, rfl, by simp, fun k _ hk => ?_⟩
  have hne : g ≠ k := fun e => hk (by rw [e])
  unfold World.setRow
  simp [Array.getElem?_modify, hne]

/-- Elements are put behind a row: in its own block, if there is room, else in a new one. -/
theorem Seg.append {P : Program} {W : World} {base size bytes n : Nat} {t e : TypeId} (ty : TypeId) {i : TypeInfo} {z : Value} (ht : P.underlying t = some (.slice e)) (hi : P.info? e = some i) (hz : i.zero = some z)
    (hsize : i.size = size) (hby : i.bytes = bytes) (hzs : z.cells.size = size) {v : Value} {xs : List Value} (h : Seg W base e size v n xs)
    (a : Addr) (m c : Nat) (hm : 0 < m) (news : List Value) (hl : news.length = m * size) (hnews : ∀ j u, news[j]? = some u → W.cell? (a.add j) = some u) (h1 : ∀ u ∈ news, u.oneCell' = true)
    (h63 : n + m ≤ maxLen) (hbytes : (n + m) * bytes ≤ 140737488355328) (hbase : base ≤ W.heap.size) :
    ∃ v' W', (Builtin.append_ #[t, t] ty #[v, .slice (some a) m c]).run P W = .ok v' W' ∧ Seg W' base e size v' (n + m) (xs ++ news) ∧ W.grownBy W' v.ownBlock ∧ (v'.ownBlock = v.ownBlock ∨ v'.ownBlock = some W.heap.size) := by
  subst hsize
  subst hby
  have hlen : (xs ++ news).length = (n + m) * i.size := by rw [List.length_append, h.1, hl, Nat.add_mul]
  have h63' : ((n + m : Nat) : Int) ≤ 9223372036854775807 := by simp only [maxLen] at h63; omega
  rcases h.2 with ⟨rfl, rfl⟩ | ⟨g, o, cap, cur, rfl, hb, hg, hnc, hcm, hfit, htake⟩
  · obtain rfl : xs = [] := List.eq_nil_of_length_eq_zero (by simpa using h.1)
    have hr := run_append_nil (P := P) W t ty e i z ht hi hz a m c news hl hnews hm (by simpa using h63') (by simp only [Nat.zero_add] at hbytes; omega)
    have hge := grownCap_ge W m 0 e
    refine ⟨_, _, hr, ⟨hlen, .inr ⟨W.heap.size, 0, _, _, by rw [Nat.zero_add], hbase, heap_alloc_new W.drew _, by omega, grownCap_le_maxLen W m 0 e (by omega), ?_, ?_⟩⟩, ⟨rfl, rfl, rfl, by simp, fun k hk _ => Below.heap_alloc W.drew _ k hk⟩, .inr rfl⟩
    · simp only [Array.size_append, List.size_toArray, size_zeroCells, hzs, hl, ← Nat.add_mul]
      rw [Nat.zero_add]
      exact Nat.mul_le_mul_right _ (by omega)
    · simp only [Array.toList_append, List.drop_zero, List.nil_append]
      rw [Nat.zero_add, ← hl]
      exact List.take_left
  · by_cases hroom : n + m ≤ cap
    · have hmul : n * i.size + m * i.size ≤ cap * i.size := by rw [← Nat.add_mul]; exact Nat.mul_le_mul_right _ hroom
      have hr := run_append_room_off (P := P) W t ty e i ht hi g o n cap cur hg a m c news hl hnews h1 hroom (by omega)
      have hg' := setRow_heap W g cur (cur.toList.take (o + n * i.size) ++ news ++ cur.toList.drop (o + n * i.size + news.length)).toArray e (0, 0) hg
      refine ⟨_, _, hr, ⟨hlen, .inr ⟨g, o, cap, _, rfl, hb, hg', by omega, hcm, ?_, ?_⟩⟩, setRow_by W g _, .inl rfl⟩
      · simp only [List.size_toArray, List.length_append, List.length_take, List.length_drop, Array.length_toList]
        omega
      · rw [Nat.add_mul, ← hl]
        show List.take _ (List.drop o (_ : List Value)) = _
        rw [drop_take_put _ _ _ _ _ (by rw [Array.length_toList]; omega), htake]
    · have holds : ∀ j u, xs[j]? = some u → W.cell? ((⟨g, o, none⟩ : Addr).add j) = some u := fun j u hu => by
        rw [Addr.add_lit]; exact (h.cell hu).1
      have hr := run_append_grow (P := P) W t ty e i z ht hi hz ⟨g, o, none⟩ n cap xs h.1 holds a m c news hl hnews (by omega) h63' (growslice_fits (by omega) hbytes)
      have hge := grownCap_ge W (n + m) cap e
      refine ⟨_, _, hr, ⟨hlen, .inr ⟨W.heap.size, 0, _, _, rfl, hbase, heap_alloc_new W.drew _, hge, grownCap_le_maxLen W (n + m) cap e h63, ?_, ?_⟩⟩, ⟨rfl, rfl, rfl, by simp, fun k hk _ => Below.heap_alloc W.drew _ k hk⟩, .inr rfl⟩
      · simp only [Array.size_append, List.size_toArray, size_zeroCells, hzs, h.1, hl, ← Nat.add_mul]
        rw [Nat.zero_add]
        exact Nat.mul_le_mul_right _ (by omega)
      · simp only [Array.toList_append, List.append_assoc, List.drop_zero]
        rw [← List.append_assoc, ← hlen]
        exact List.take_left

end Go.Proofs.YtnhkpemajknfnaaGreatDoor.Law
