/-
  A slice of bytes in a block of the call's own, whose capacity may be less than the block's cells: copied into from a string, appended to from a string, cut. Of whatever program.
-/
import Derived.Lib.AppendStr
import Derived.Laws.CopyRow
import Derived.Test.YtnhkpemajknfnaaGreatDoorSame
namespace Go.Proofs.YtnhkpemajknfnaaGreatDoor.Law
open Go Go.RowKit Go.Lib

def bytesS (s : ByteArray) : List Nat := s.data.toList.map UInt8.toNat
theorem bytesS_length (s : ByteArray) : (bytesS s).length = s.size := by unfold bytesS; rw [List.length_map, Array.length_toList]; rfl
theorem bytesS_lt (s : ByteArray) : ∀ x ∈ bytesS s, x < 256 := by
  intro x hx
  simp only [bytesS, List.mem_map] at hx
  obtain ⟨y, _, rfl⟩ := hx
  exact y.toNat_lt
theorem strCells_vals (s : ByteArray) : strCells s = vals (bytesS s) := by
  unfold strCells vals bytesS
  rw [List.map_map]; rfl

/-- The slice value reads as the bytes, from the front of a block of its own. -/
def Buf (W : World) (base : Nat) (e : TypeId) (v : Value) (bs : List Nat) : Prop :=
  (∀ x ∈ bs, x < 256) ∧ ((v = .slice none 0 0 ∧ bs = []) ∨
    ∃ g cap cur, v = .slice (some ⟨g, 0, none⟩) bs.length cap ∧ base ≤ g ∧ W.heap[g]? = some (.cells cur e (0, 0)) ∧ bs.length ≤ cap ∧ cap ≤ cur.size ∧ cap ≤ maxLen ∧ cur.toList.take bs.length = vals bs)

theorem Buf.of_own {W : World} {base : Nat} {e : TypeId} {v : Value} {bs : List Nat} (h : OwnB W base e v bs) : Buf W base e v bs := by
  refine ⟨h.2, ?_⟩
  rcases h.1.2 with ⟨hv, hz⟩ | ⟨g, cap, cur, rfl, hb, hg, hn, hc, hs, ht⟩
  · exact .inl ⟨hv, List.eq_nil_of_length_eq_zero hz⟩
  · exact .inr ⟨g, cap, cur, rfl, hb, hg, hn, by omega, hc, by simpa using ht⟩
theorem Buf.nil (W : World) (base : Nat) (e : TypeId) : Buf W base e (.slice none 0 0) [] := ⟨by simp, .inl ⟨rfl, rfl⟩⟩
theorem Buf.form {W : World} {base : Nat} {e : TypeId} {v : Value} {bs : List Nat} (h : Buf W base e v bs) : ∃ A cap, v = .slice A bs.length cap ∧ bs.length ≤ cap := by
  rcases h.2 with ⟨rfl, rfl⟩ | ⟨g, cap, cur, rfl, _, _, hn, _⟩
  · exact ⟨none, 0, rfl, Nat.le_refl _⟩
  · exact ⟨_, cap, rfl, hn⟩
theorem Buf.own {W : World} {base : Nat} {e : TypeId} {v : Value} {bs : List Nat} (h : Buf W base e v bs) : ∀ g, v.ownBlock = some g → base ≤ g ∧ g < W.heap.size := fun g hg => by
  rcases h.2 with ⟨rfl, _⟩ | ⟨g', cap, cur, rfl, hb, hh, _⟩
  · cases hg
  · simp only [Value.ownBlock, Option.some.injEq] at hg
    subst hg
    exact ⟨hb, (Array.getElem?_eq_some_iff.1 hh).1⟩
theorem Buf.keep {W W' : World} {base : Nat} {e : TypeId} {v : Value} {bs : List Nat} (h : Buf W base e v bs) (hb : ∀ g, v.ownBlock = some g → W'.heap[g]? = W.heap[g]?) : Buf W' base e v bs := by
  refine ⟨h.1, ?_⟩
  rcases h.2 with h0 | ⟨g, cap, cur, rfl, h1, h2, h3⟩
  · exact .inl h0
  · exact .inr ⟨g, cap, cur, rfl, h1, (hb g rfl).trans h2, h3⟩
theorem Buf.below {W W' : World} {base : Nat} {e : TypeId} {v : Value} {bs : List Nat} (h : Buf W base e v bs) (hB : Below W.heap.size W W') : Buf W' base e v bs := h.keep fun g hg => hB.block g (h.own g hg).2
theorem Buf.lower {W : World} {base b' : Nat} {e : TypeId} {v : Value} {bs : List Nat} (h : Buf W base e v bs) (hb : b' ≤ base) : Buf W b' e v bs := by
  refine ⟨h.1, ?_⟩
  rcases h.2 with h0 | ⟨g, cap, cur, rfl, h1, h2⟩
  · exact .inl h0
  · exact .inr ⟨g, cap, cur, rfl, by omega, h2⟩
theorem take_vals_get {cur : List Value} {bs : List Nat} (h : cur.take bs.length = vals bs) {j : Nat} (hj : j < bs.length) : cur[j]? = some (.int .u8 (bs.getD j 0 : Nat)) := by
  have : (cur.take bs.length)[j]? = cur[j]? := by rw [List.getElem?_take, if_pos hj]
  rw [← this, h]; exact vals_get bs j hj
theorem Buf.bytes {W : World} {base : Nat} {e : TypeId} {v : Value} {bs : List Nat} (h : Buf W base e v bs) : Bytes W.heap.size W v bs := by
  have hlt := h.own
  obtain ⟨h256, h⟩ := h
  rcases h with ⟨rfl, rfl⟩ | ⟨g, cap, cur, rfl, hb, hg, hn, hc, hm, ht⟩
  · exact ⟨none, 0, rfl, Nat.le_refl _, fun _ => rfl, by simp, fun h => by simp at h⟩
  · refine ⟨_, cap, rfl, hn, (fun h => by cases h), h256, fun _ => ⟨g, 0, rfl, (hlt g rfl).2, fun j hj => ?_⟩⟩
    have := take_vals_get ht hj
    simp only [World.cell?, hg, Nat.zero_add]
    rw [← this]
    simp

/-- The front of a buffer, with no room behind it. -/
theorem Buf.cut {W : World} {base : Nat} {e : TypeId} {A : Option Addr} {len cap : Nat} {bs : List Nat} (h : Buf W base e (.slice A len cap) bs) (k : Nat) (hk : k ≤ bs.length) (hA : A = none → k = 0) : Buf W base e (.slice A k k) (bs.take k) := by
  have hl : (bs.take k).length = k := by rw [List.length_take]; omega
  refine ⟨fun x hx => h.1 x (List.mem_of_mem_take hx), ?_⟩
  rcases h.2 with ⟨hv, rfl⟩ | ⟨g, cap', cur, hv, hb, hg, hn, hc, hm, ht⟩
  · simp only [Value.slice.injEq] at hv
    obtain ⟨rfl, _, _⟩ := hv
    obtain rfl := hA rfl
    exact .inl ⟨rfl, rfl⟩
  · simp only [Value.slice.injEq] at hv
    obtain ⟨rfl, rfl, rfl⟩ := hv
    refine .inr ⟨g, k, cur, by rw [hl], hb, hg, by omega, by omega, by omega, ?_⟩
    rw [hl]
    have : (cur.toList.take bs.length).take k = cur.toList.take k := by rw [List.take_take]; congr 1; omega
    rw [← this, ht]
    simp [vals, List.map_take]

/-- A slice of the same block that is no longer than what stays. -/
theorem Buf.front_kept {W W' : World} {base base' : Nat} {e : TypeId} {v : Value} {bs : List Nat} {g : Nat} {cur cur' : Array Value} (h : Buf W base e v bs) (hg : W.heap[g]? = some (.cells cur e (0, 0))) (hg' : W'.heap[g]? = some (.cells cur' e (0, 0))) (hs : cur'.size = cur.size)
    (hv : v.ownBlock = some g) (hf : cur'.toList.take bs.length = cur.toList.take bs.length) (hb : base' ≤ g) : Buf W' base' e v bs := by
  refine ⟨h.1, ?_⟩
  rcases h.2 with ⟨rfl, _⟩ | ⟨g', cap, c0, rfl, h1, h2, h3, h4, h5, h6⟩
  · cases hv
  · simp only [Value.ownBlock, Option.some.injEq] at hv
    subst hv
    rw [hg] at h2
    simp only [Option.some.injEq, Obj.cells.injEq, and_true] at h2
    obtain rfl := h2
    exact .inr ⟨g', cap, cur', rfl, hb, hg', h3, by omega, h5, by rw [hf]; exact h6⟩

theorem setRow_grown (W : World) (g : Nat) (cs : Array Value) : W.grownBy (W.setRow g cs) (some g) := by
  refine ⟨rfl, rfl, rfl, by simp, fun k _ hk => ?_⟩
  have hne : g ≠ k := fun e => hk (by rw [e])
  unfold World.setRow
  simp [Array.getElem?_modify, hne]

/-- A string is copied into a part of a row. -/
theorem run_copy_string {P : Program} (w : World) (dT sT ty elem : TypeId) (g o dLen dCap : Nat) (s : ByteArray) (cur : Array Value) (t : TypeId) (hu : P.underlying dT = some (.slice elem)) (hs : (P.info? elem).map (·.size) = some 1)
    (hg : w.heap[g]? = some (.cells cur t (0, 0))) (hfit : o + Nat.min s.size dLen ≤ cur.size) :
    (Builtin.copy_ #[dT, sT] ty #[.slice (some ⟨g, o, none⟩) dLen dCap, .string s]).run P w =
      .ok (goInt (Nat.min s.size dLen)) (w.setRow g (cur.toList.take o ++ (strCells s).take (Nat.min s.size dLen) ++ cur.toList.drop (o + Nat.min s.size dLen)).toArray) := by
  obtain ⟨n, hn⟩ : ∃ n, Nat.min s.size dLen = n := ⟨_, rfl⟩
  have hns : n ≤ s.size := by rw [← hn]; exact Nat.min_le_left _ _
  have hl : ((strCells s).take n).length = n := by rw [List.length_take, strCells_length]; omega
  have hst2 := run_storeCells_at P g o t ((strCells s).take n) 0 cur w hg (by rw [hl]; rw [hn] at hfit; simpa using hfit) (fun u hu => strCells_oneCell s u (List.mem_of_mem_take hu))
  rw [hl] at hst2
  rw [hn]
  cases hq : P.info? elem with
  | none => simp [hq] at hs
  | some i =>
    simp only [Nat.add_zero] at hst2
    have hst3 : (storeCells ⟨g, o, none⟩ (List.take n (List.map (fun b => Value.int IntKind.u8 ↑b.toNat) s.data.toList))).run P w = _ := hst2
    simp [Builtin.copy_, run_underlying hu, Builtin.lenOf, Builtin.firstCells, sizeOf, typeInfo, hq, hn, hst3]

/-- A string is copied nowhere. -/
theorem run_copy_nowhere {P : Program} (w : World) (dT sT ty elem : TypeId) (dp : Option Addr) (dCap : Nat) (s : ByteArray) (hu : P.underlying dT = some (.slice elem)) (hs : ((P.info? elem).map (·.size)) = some 1) :
    (Builtin.copy_ #[dT, sT] ty #[.slice dp 0 dCap, .string s]).run P w = .ok (goInt 0) w := by
  cases hq : P.info? elem with
  | none => simp [hq] at hs
  | some i =>
    cases dp with
    | none => simp [Builtin.copy_, run_underlying hu, Builtin.lenOf, Builtin.firstCells, sizeOf, typeInfo, hq]
    | some a => simp [Builtin.copy_, run_underlying hu, Builtin.lenOf, Builtin.firstCells, sizeOf, typeInfo, hq, storeCells]

/-- A string is put behind a buffer: in its own block, if there is room, else in a new one. -/
theorem Buf.append_string {P : Program} {W : World} {base : Nat} {t u e : TypeId} (ty : TypeId) {i : TypeInfo} (ht : P.underlying t = some (.slice e)) (hu : P.underlying u = some .string) (hi : P.info? e = some i) (hz : i.zero = some (.int .u8 0)) (hsize : i.size = 1) (hby : i.bytes = 1)
    {v : Value} {bs : List Nat} (h : Buf W base e v bs) (s : ByteArray) (hroom : bs.length + s.size ≤ 140737488355328) (hbase : base ≤ W.heap.size) :
    ∃ v' W', (Builtin.append_ #[t, u] ty #[v, .string s]).run P W = .ok v' W' ∧ Buf W' base e v' (bs ++ bytesS s) ∧ W.grownBy W' v.ownBlock ∧ (v'.ownBlock = v.ownBlock ∨ v'.ownBlock = some W.heap.size) ∧
      (∀ b2 v2 xs, Buf W b2 e v2 xs → v2.ownBlock = v.ownBlock → xs.length ≤ bs.length → Buf W' b2 e v2 xs) ∧
      ((∃ A, v = .slice A bs.length bs.length) → (∀ k, k < W.heap.size → W'.heap[k]? = W.heap[k]?) ∧ (v'.ownBlock = some W.heap.size ∨ ∃ A n, v' = .slice A n n)) := by
  rcases h.2 with ⟨rfl, rfl⟩ | ⟨g, cap, cur, rfl, hbg, hg, hnc, hcs, hcm, htake⟩
  · have hO : W.ownsRow base e 1 (.slice none 0 0) 0 [] := World.ownsRow_nil W base e 1
    obtain ⟨v', w', hrun, h1, h2, h3⟩ := run_append_own_string (P := P) W base t u ty e i ht hu hi hz hsize hby (.slice none 0 0) 0 [] hO s (by simp only [maxLen]; simp only [List.length_nil] at hroom; omega) (by simpa using hroom) hbase
    have hO' : OwnB w' base e v' (bytesS s) := ⟨by rw [bytesS_length]; rw [strCells_vals] at h1; simpa using h1, bytesS_lt s⟩
    have hblk : ∀ k, k < W.heap.size → w'.heap[k]? = W.heap[k]? := fun k hk => h2.block k hk (by simp [Value.ownBlock])
    suffices hx : v' = .slice none 0 0 ∨ v'.ownBlock = some W.heap.size by
      refine ⟨v', w', hrun, Buf.of_own hO', h2, ?_, fun b2 v2 xs hb he _ => hb.keep (fun k hk => by rw [hk] at he; cases he), fun _ => ⟨hblk, ?_⟩⟩
      · rcases hx with rfl | hx
        · exact .inl rfl
        · exact .inr hx
      · rcases hx with rfl | hx
        · exact .inr ⟨none, 0, rfl⟩
        · exact .inl hx
    by_cases hs0 : s.size = 0
    · rw [h3.2 ⟨rfl, hs0⟩]; exact .inl rfl
    · have hr := run_append_nil_string (P := P) W t u ty e i (.int .u8 0) ht hu hi hz s (by omega) (by simp only [List.length_nil] at hroom; omega) (by rw [hby]; simp only [List.length_nil] at hroom; omega)
      rw [hr] at hrun
      simp only [Result.ok.injEq] at hrun
      rw [← hrun.1]; exact .inr rfl
  · have hlt := (Array.getElem?_eq_some_iff.1 hg).1
    have hall : ∀ x ∈ bs ++ bytesS s, x < 256 := fun x hx => (List.mem_append.1 hx).elim (h.1 x) (bytesS_lt s x)
    have hl2 : (bs ++ bytesS s).length = bs.length + s.size := by rw [List.length_append, bytesS_length]
    by_cases hfit : bs.length + s.size ≤ cap
    · have hr := run_append_room_string (P := P) W t u ty e i ht hu hi hsize g bs.length cap cur hg s hfit (by omega)
      have hg' := setRow_heap W g cur (cur.toList.take bs.length ++ strCells s ++ cur.toList.drop (bs.length + s.size)).toArray e (0, 0) hg
      have hsz : (cur.toList.take bs.length ++ strCells s ++ cur.toList.drop (bs.length + s.size)).toArray.size = cur.size := by
        simp only [List.size_toArray, List.length_append, List.length_take, List.length_drop, Array.length_toList, strCells_length]
        omega
      refine ⟨_, _, hr, ⟨hall, .inr ⟨g, cap, _, by rw [hl2], hbg, hg', by omega, by rw [hsz]; exact hcs, hcm, ?_⟩⟩, setRow_grown W g _, .inl rfl, fun b2 v2 xs hb he hle => ?_, fun hA => ⟨fun k hk => ?_, ?_⟩⟩
      · rw [hl2, vals_append, ← strCells_vals, htake]
        have : bs.length + s.size = (vals bs ++ strCells s).length := by rw [List.length_append, vals_length, strCells_length]
        rw [this]
        exact List.take_left
      · refine hb.front_kept hg hg' hsz he ?_ ?_
        · have h1 : (cur.toList.take bs.length).length = bs.length := by rw [htake, vals_length]
          rw [List.append_assoc]
          show List.take xs.length (List.take bs.length cur.toList ++ _) = _
          rw [List.take_append_of_le_length (by rw [h1]; exact hle), List.take_take]
          congr 1; omega
        · exact (hb.own g he).1
      · obtain ⟨A, hA⟩ := hA
        simp only [Value.slice.injEq] at hA
        obtain ⟨_, _, hA⟩ := hA
        have hs0 : s.size = 0 := by omega
        have hnil : strCells s = [] := List.eq_nil_of_length_eq_zero (by rw [strCells_length]; exact hs0)
        by_cases hkg : k = g
        · subst hkg
          rw [hg', hg, hnil, hs0]
          simp
        · exact (setRow_grown W g _).block k hk (fun e => hkg (by simpa using e))
      · obtain ⟨A, hA⟩ := hA
        simp only [Value.slice.injEq] at hA
        obtain ⟨_, _, hA⟩ := hA
        exact .inr ⟨some ⟨g, 0, none⟩, cap, by rw [show bs.length + s.size = cap by omega]⟩
    · have holds : ∀ j x, (vals bs)[j]? = some x → W.cell? ((⟨g, 0, none⟩ : Addr).add j) = some x := fun j x hx => by
        have hj : j < bs.length := by have := (List.getElem?_eq_some_iff.1 hx).1; rwa [vals_length] at this
        rw [Addr.add_lit]
        have := take_vals_get htake hj
        rw [vals_get bs j hj] at hx
        simp only [World.cell?, hg, Nat.zero_add]
        rw [← hx, ← this]
        simp
      have hr := run_append_grow_string (P := P) W t u ty e i (.int .u8 0) ht hu hi hz ⟨g, 0, none⟩ bs.length cap (vals bs) (by rw [hsize, vals_length, Nat.mul_one]) holds s (by omega) (by omega) (by rw [hby]; exact growslice_fits (by omega) (by omega))
      have hge := grownCap_ge W (bs.length + s.size) cap e
      have hcm2 : grownCap W (bs.length + s.size) cap e ≤ maxLen := grownCap_le_maxLen W (bs.length + s.size) cap e (by simp only [maxLen]; omega)
      have hblk : ∀ k, k < W.heap.size → (W.drew.alloc (.cells ((vals bs).toArray ++ (strCells s).toArray ++ Builtin.zeroCells (Value.int .u8 0).cells (grownCap W (bs.length + s.size) cap e - (bs.length + s.size))) e)).heap[k]? = W.heap[k]? := fun k hk => Below.heap_alloc W.drew _ k hk
      refine ⟨_, _, hr, ⟨hall, .inr ⟨W.heap.size, _, _, by rw [hl2], hbase, heap_alloc_new W.drew _, by omega, ?_, hcm2, ?_⟩⟩, ⟨rfl, rfl, rfl, by simp, fun k hk _ => hblk k hk⟩, .inr rfl, fun b2 v2 xs hb he _ => hb.keep (fun k hk => hblk k (hb.own k hk).2), fun _ => ⟨hblk, .inl rfl⟩⟩
      · have hz1 : (Value.int IntKind.u8 0).cells.size = 1 := rfl
        simp only [Array.size_append, List.size_toArray, size_zeroCells, hz1, vals_length, strCells_length]
        omega
      · simp only [Array.toList_append, List.append_assoc]
        rw [← List.append_assoc, hl2, vals_append, ← strCells_vals]
        have : bs.length + s.size = (vals bs ++ strCells s).length := by rw [List.length_append, vals_length, strCells_length]
        rw [this]
        exact List.take_left

end Go.Proofs.YtnhkpemajknfnaaGreatDoor.Law
