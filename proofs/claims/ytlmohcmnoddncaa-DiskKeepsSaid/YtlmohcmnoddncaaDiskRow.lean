/-
  Files and their changes as a row of the call's own: appended to, sorted by number.
-/
import Derived.Test.YtlmohcmnoddncaaDiskPend
import Derived.Shelf.SlSortCmp.NoneTotal
namespace Go.Proofs.Ytlmohcmnoddncaa.Disk
open Go Go.RowKit Go.Lib Go.Sort Go.Proofs.Ytlmohcmnoddncaa.Law

/-- Files and changes as cells. -/
def flatX : List (Nat × Chg) → List Value
  | [] => []
  | x :: r => .pointer (some ⟨x.1, 0, none⟩) :: .int .i64 (x.2.n : Nat) :: .int .i64 (x.2.kind : Nat) :: .int .i64 (x.2.pos : Nat) :: .string x.2.s :: flatX r
theorem flatX_length : ∀ l : List (Nat × Chg), (flatX l).length = l.length * 5
  | [] => rfl
  | x :: r => by simp only [flatX, List.length_cons, flatX_length r]; omega
theorem flatX_append : ∀ a b : List (Nat × Chg), flatX (a ++ b) = flatX a ++ flatX b
  | [], b => by simp [flatX]
  | x :: a, b => by simp only [List.cons_append, flatX, flatX_append a b]
theorem flatX_one : ∀ l : List (Nat × Chg), ∀ u ∈ flatX l, u.oneCell' = true
  | [], u, h => by simp [flatX] at h
  | x :: r, u, h => by
    simp only [flatX, List.mem_cons] at h
    rcases h with rfl | rfl | rfl | rfl | rfl | h
    · rfl
    · rfl
    · rfl
    · rfl
    · rfl
    · exact flatX_one r u h
theorem flatX_get : ∀ (l : List (Nat × Chg)) (t : Nat), t < l.length * 5 → (flatX l)[t]? = some ((encX (l.toArray[t / 5]!))[t % 5]!)
  | [], t, h => by simp at h
  | x :: r, t, h => by
    by_cases h5 : t < 5
    · have e1 : t / 5 = 0 := by omega
      have e2 : t % 5 = t := by omega
      rw [e1, e2]
      match t, h5 with
      | 0, _ => rfl
      | 1, _ => rfl
      | 2, _ => rfl
      | 3, _ => rfl
      | 4, _ => rfl
    · obtain ⟨u, rfl⟩ : ∃ u, t = u + 5 := ⟨t - 5, by omega⟩
      have e1 : (u + 5) / 5 = u / 5 + 1 := by omega
      have e2 : (u + 5) % 5 = u % 5 := by omega
      rw [e1, e2]
      have := flatX_get r u (by simp only [List.length_cons] at h; omega)
      have e3 : (x :: r).toArray[u / 5 + 1]! = r.toArray[u / 5]! := by simp
      rw [e3]
      show (flatX r)[u]? = _
      exact this
theorem flatK_toList (l : List (Nat × Chg)) : (flatK encX 5 l.toArray).toList = flatX l := by
  apply List.ext_getElem?
  intro t
  by_cases h : t < l.length * 5
  · rw [flatX_get l t h]
    have hs : t < (flatK encX 5 l.toArray).size := by rw [size_flatK]; simpa using h
    have := get_flatK encX 5 l.toArray t (by simpa using h)
    rw [getElem!_pos _ t hs] at this
    rw [Array.getElem?_toList, Array.getElem?_eq_getElem hs, this]
  · rw [List.getElem?_eq_none (by rw [Array.length_toList, size_flatK]; simp; omega), List.getElem?_eq_none (by rw [flatX_length]; omega)]

/-- A row of files and changes. -/
def OwnX (W : World) (base : Nat) (v : Value) (l : List (Nat × Chg)) : Prop := W.ownsRow base 104 5 v l.length (flatX l)
theorem OwnX.nil (W : World) (base : Nat) : OwnX W base (.slice none 0 0) [] := ⟨rfl, .inl ⟨rfl, rfl⟩⟩
theorem OwnX.own {W : World} {base : Nat} {v : Value} {l : List (Nat × Chg)} (h : OwnX W base v l) : ∀ g, v.ownBlock = some g → base ≤ g ∧ g < W.heap.size := fun g hg => World.ownsRow.lt h g hg
theorem OwnX.form {W : World} {base : Nat} {v : Value} {l : List (Nat × Chg)} (h : OwnX W base v l) : ∃ A cap, v = .slice A l.length cap := by
  rcases h.2 with ⟨rfl, h0⟩ | ⟨g, cap, cur, rfl, _⟩
  · exact ⟨none, 0, by rw [h0]⟩
  · exact ⟨_, _, rfl⟩
theorem OwnX.keep {W W' : World} {base : Nat} {v : Value} {l : List (Nat × Chg)} (h : OwnX W base v l) (hb : ∀ g, v.ownBlock = some g → W'.heap[g]? = W.heap[g]?) : OwnX W' base v l := by
  refine ⟨h.1, ?_⟩
  rcases h.2 with h0 | ⟨g, cap, cur, rfl, h1, h2, h3⟩
  · exact .inl h0
  · exact .inr ⟨g, cap, cur, rfl, h1, (hb g rfl).trans h2, h3⟩
/-- The row's block is a row of such cells. -/
theorem OwnX.tag {W : World} {base : Nat} {v : Value} {l : List (Nat × Chg)} (h : OwnX W base v l) {g : Nat} (hg : v.ownBlock = some g) : ∃ cur, W.heap[g]? = some (.cells cur 104 (0, 0)) := by
  rcases h.2 with ⟨rfl, _⟩ | ⟨g', cap, cur, rfl, _, h2, _⟩
  · cases hg
  · simp only [Value.ownBlock, Option.some.injEq] at hg
    subst hg
    exact ⟨cur, h2⟩

theorem info_ofFile : (Try.prog.info? 104).map (fun i => (i.zero, i.size, i.bytes)) = some (some (.agg #[.pointer none, .int .i64 0, .int .i64 0, .int .i64 0, .string ⟨#[]⟩]), 5, 48) := by kernel_rfl

theorem OwnX.append {W : World} {base : Nat} {v : Value} {l : List (Nat × Chg)} (h : OwnX W base v l) (hbase : base ≤ W.heap.size) (x : Nat × Chg) (ty : TypeId) (b : Nat) {tg : TypeId}
    (hb : W.heap[b]? = some (.cells #[.pointer (some ⟨x.1, 0, none⟩), .int .i64 (x.2.n : Nat), .int .i64 (x.2.kind : Nat), .int .i64 (x.2.pos : Nat), .string x.2.s] tg (0, 0))) (hroom : (l.length + 1) * 48 ≤ 140737488355328) :
    ∃ v' W', (Builtin.append_ #[102, 102] ty #[v, .slice (some ⟨b, 0, none⟩) 1 1]).run Try.prog W = .ok v' W' ∧ OwnX W' base v' (l ++ [x]) ∧ W.grownBy W' v.ownBlock ∧ (v'.ownBlock = v.ownBlock ∨ v'.ownBlock = some W.heap.size) := by
  obtain ⟨i0, hi, hz0, hz1, hz2⟩ := info_parts info_ofFile
  obtain ⟨v', W', hrun, h2, h3, _, h5⟩ := run_append_own_at (P := Try.prog) W base 102 ty 104 i0 _ 5 48 Try.underlying102 hi hz0 hz1 hz2 rfl (by decide) v l.length (flatX l) h ⟨b, 0, none⟩ 1 1 (flatX [x]) (flatX_length [x])
    (fun j u hu => by
      rw [Addr.add_lit]
      match j, hu with
      | 0, hu => simp [flatX] at hu; subst hu; simp [World.cell?, hb]
      | 1, hu => simp [flatX] at hu; subst hu; simp [World.cell?, hb]
      | 2, hu => simp [flatX] at hu; subst hu; simp [World.cell?, hb]
      | 3, hu => simp [flatX] at hu; subst hu; simp [World.cell?, hb]
      | 4, hu => simp [flatX] at hu; subst hu; simp [World.cell?, hb]
      | j + 5, hu => simp [flatX] at hu) (flatX_one [x]) (by simp only [maxLen]; omega) hroom hbase
  refine ⟨v', W', hrun, ?_, h3, h5⟩
  show W'.ownsRow _ _ _ _ _ _
  rw [List.length_append, flatX_append]
  exact h2

theorem take_putCells_id (cur F : Array Value) (h : F.size ≤ cur.size) : (putCells id 0 F cur).toList.take F.size = F.toList := by
  apply List.ext_getElem?
  intro j
  by_cases hj : j < F.size
  · rw [List.getElem?_take_of_lt hj, Array.getElem?_toList]
    simp [putCells, hj, show j < cur.size by omega]
  · rw [List.getElem?_take_eq_none (by omega), List.getElem?_eq_none (by simp; omega)]

/-- A row that is sorted by number: the same ones, in their order. -/
theorem OwnX.sort {W : World} {base : Nat} {v : Value} {l m : List (Nat × Chg)} (h : OwnX W base v l) (hp : l.Perm m) (hm : m.Pairwise fun a b => a.2.n < b.2.n) (hlen : l.length ≤ 4294967296) :
    Calls Try.prog 58 #[v, .func (.func 59) #[] #[]] W fun e W' => e = .returned (.tuple #[]) ∧ OwnX W' base v m ∧ W.grownBy W' v.ownBlock := by
  by_cases h0 : l.length = 0
  · obtain ⟨A, cap, rfl⟩ := h.form
    have hl : l = [] := List.eq_nil_of_length_eq_zero h0
    subst hl
    have hm0 : m = [] := by simpa using hp.symm.eq_nil
    subst hm0
    have hcon := AnyF.slices_SortFunc_none (P := Try.prog) (ρ := _) { Try.sortOfFile with } A cap (.func (.func 59) #[] #[]) W
    change Calls Try.prog 58 _ _ _ at hcon
    refine hcon.mono ?_
    rintro e W' ⟨rfl, rfl⟩
    exact ⟨rfl, h, rfl, rfl, rfl, Nat.le_refl _, fun _ _ _ => rfl⟩
  · rcases h.2 with ⟨_, h1⟩ | ⟨g, cap, cur, rfl, hbg, hg, hn, hcm, hcs, ht⟩
    · exact absurd h1 h0
    · have hgl := (Array.getElem?_eq_some_iff.1 hg).1
      have hH : HoldsK encX 5 W g 0 l.toArray := by
        intro t ht'
        have ht2 : t < l.length * 5 := by simpa using ht'
        refine ⟨?_, by simp [World.frozen?, hg]⟩
        have h1 : (cur.toList.take (l.length * 5))[t]? = (flatX l)[t]? := by rw [ht]
        rw [List.getElem?_take_of_lt ht2, ← flatK_toList, Array.getElem?_toList, Array.getElem?_toList] at h1
        have hs : t < (flatK encX 5 l.toArray).size := ht'
        simp only [World.cell?, hg, Nat.zero_add, Option.isSome_none, Bool.false_eq_true, if_false]
        rw [h1, Array.getElem?_eq_getElem hs, getElem!_pos _ t hs]
        rfl
      have hcon := sortX_calls g 0 cap l.toArray W hH hgl (by simp; omega)
      simp only [List.size_toArray] at hcon
      refine hcon.mono ?_
      rintro e W' ⟨rfl, d', n, os, hperm, hsort, rfl⟩
      obtain ⟨hsz, _, hpp⟩ := hperm
      have hsz' : d'.size = l.length := by simpa using hsz
      have e1 : d'.extract 0 l.length = d' := by rw [← hsz']; simp
      have e2 : l.toArray.extract 0 l.length = l.toArray := by
        have : l.length = l.toArray.size := by simp
        rw [this]; simp
      rw [e1, e2] at hpp
      have hpm : d'.toList.Perm m := hpp.trans hp
      have hsorted : d'.toList.Pairwise fun a b => a.2.n ≤ b.2.n := by
        rw [List.pairwise_iff_getElem]
        intro i j hi hj hij
        have := hsort i j (Nat.zero_le _) hij (by rw [Array.length_toList] at hj; omega)
        rw [ltX, getElem!_pos d' i (by rw [Array.length_toList] at hi; exact hi), getElem!_pos d' j (by rw [Array.length_toList] at hj; exact hj)] at this
        simp only [decide_eq_false_iff_not, Nat.not_lt] at this
        simpa using this
      have hdm : d'.toList = m := by
        refine List.Perm.eq_of_pairwise (le := fun a b => a.2.n ≤ b.2.n) ?_ hsorted (hm.imp fun h => Nat.le_of_lt h) hpm
        intro a b ha hb h1 h2
        have ha' : a ∈ m := hpm.subset ha
        have he : a.2.n = b.2.n := Nat.le_antisymm h1 h2
        by_cases hab : a = b
        · exact hab
        · exfalso
          obtain ⟨i, hi, hia⟩ := List.getElem_of_mem ha'
          obtain ⟨j, hj, hjb⟩ := List.getElem_of_mem hb
          rw [List.pairwise_iff_getElem] at hm
          rcases Nat.lt_trichotomy i j with h | h | h
          · have := hm i j hi hj h
            rw [hia, hjb] at this; omega
          · subst h
            exact hab (hia.symm.trans hjb)
          · have := hm j i hj hi h
            rw [hia, hjb] at this; omega
      have hml : m.length = l.length := hp.length_eq.symm
      have hda : d' = m.toArray := by rw [← hdm]
      refine ⟨rfl, ⟨by rw [flatX_length], .inr ⟨g, cap, putCells id 0 (flatK encX 5 d') cur, by rw [hml], hbg, ?_, by omega, hcm, by simp [putCells, hcs], ?_⟩⟩, rfl, rfl, rfl, ?_, fun k hk hne => ?_⟩
      · unfold sortWorldK putRowK
        rw [heap_grow_old _ _ (by simp [putRow, mapBlock, Sort.ahead]; exact hgl)]
        simp [putRow, mapBlock, Sort.ahead, Array.getElem?_modify, hg, onCells]
      · have hFs : (flatK encX 5 d').size = m.length * 5 := by rw [size_flatK, hsz', hml]
        rw [← hFs, take_putCells_id _ _ (by rw [hFs, hcs, hml]; exact Nat.mul_le_mul_right 5 hn), hda, flatK_toList]
      · simp [sortWorldK, putRowK, putRow, mapBlock, Sort.ahead, grow]
      · unfold sortWorldK putRowK
        rw [heap_grow_old _ _ (by simp [putRow, mapBlock, Sort.ahead]; exact hk)]
        have : g ≠ k := fun e => hne (by simp [Value.ownBlock, e])
        simp [putRow, mapBlock, Sort.ahead, Array.getElem?_modify, this]

end Go.Proofs.Ytlmohcmnoddncaa.Disk
