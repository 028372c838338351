/-
  Put together out of texts of one chain: what they hold stands ahead of each.
-/
import Derived.Test.YtnhkpemajknfnaaGreatDoorGSeglogHeads05
import Derived.LoopTactic
import Derived.Shelf.SlSortCmp.NoneTotal
/-
  Contract of the disk's Pending.
-/
namespace Go.Proofs.YtnhkpemajknfnaaGreatDoor.Disk
open Go Go.RowKit Go.Lib Go.Proofs.YtnhkpemajknfnaaGreatDoor.Law

/-- Where a name's file lies. -/
theorem DiskAt.files {W : World} {O : Owner} {db : Nat} {D : DS} {F : ByteArray → Option Nat} (h : ∀ s ∈ D.names, ∃ fb, F s = some fb ∧ FileAt W O (db + 1) s fb (D.now s) (D.safe s) (mine s D.chs)) {s : ByteArray} (hs : s ∈ D.names) {g : Nat} (hF : F s = some g) :
    ∃ v : KV, FileV W O (db + 1) s g (D.now s) (D.safe s) (mine s D.chs) v := by
  obtain ⟨fb, h1, h2⟩ := h s hs
  rw [hF] at h1
  obtain rfl := Option.some.inj h1
  exact h2.vals

theorem chCount_erase (l : List (ByteArray × Chg)) {names : List ByteArray} {s : ByteArray} (hs : s ∈ names) : chCount names l = (mine s l).length + chCount (names.erase s) l := by
  rw [count_perm l (List.perm_cons_erase hs)]
  unfold chCount
  rw [List.map_cons, List.sum_cons]

end Go.Proofs.YtnhkpemajknfnaaGreatDoor.Disk

/-
  Files and their changes as a row of the call's own: appended to, sorted by number.
-/
namespace Go.Proofs.YtnhkpemajknfnaaGreatDoor.Disk
open Go Go.RowKit Go.Lib Go.Sort Go.Proofs.YtnhkpemajknfnaaGreatDoor.Law

/-- Files and changes as cells. -/
def flatX : List (Nat × Chg) → List Value
  | [] => []
  | x :: r => .pointer (some ⟨x.1, 0, none⟩) :: .int .i64 (x.2.n : Nat) :: .int .i64 (x.2.kind : Nat) :: .int .i64 (x.2.pos : Nat) :: .string x.2.s :: flatX r
theorem flatX_length : ∀ l : List (Nat × Chg), (flatX l).length = l.length * 5
  | [] => rfl
  | x :: r => by simp only [flatX, List.length_cons, flatX_length r]; omega
theorem flatX_append : ∀ a b : List (Nat × Chg), flatX (a ++ b) = flatX a ++ flatX b
  | [], b => by simp [flatX]
  | x :: a, b => by simp only [List.cons_append, flatX, flatX_append a b]
theorem flatX_one : ∀ l : List (Nat × Chg), ∀ u ∈ flatX l, u.oneCell' = true
  | [], u, h => by simp [flatX] at h
  | x :: r, u, h => by
    simp only [flatX, List.mem_cons] at h
    rcases h with rfl | rfl | rfl | rfl | rfl | h
    · rfl
    · rfl
    · rfl
    · rfl
    · rfl
    · exact flatX_one r u h
theorem flatX_get : ∀ (l : List (Nat × Chg)) (t : Nat), t < l.length * 5 → (flatX l)[t]? = some ((encX (l.toArray[t / 5]!))[t % 5]!)
  | [], t, h => by simp at h
  | x :: r, t, h => by
    by_cases h5 : t < 5
    · have e1 : t / 5 = 0 := by omega
      have e2 : t % 5 = t := by omega
      rw [e1, e2]
      match t, h5 with
      | 0, _ => rfl
      | 1, _ => rfl
      | 2, _ => rfl
      | 3, _ => rfl
      | 4, _ => rfl
    · obtain ⟨u, rfl⟩ : ∃ u, t = u + 5 := ⟨t - 5, by omega⟩
      have e1 : (u + 5) / 5 = u / 5 + 1 := by omega
      have e2 : (u + 5) % 5 = u % 5 := by omega
      rw [e1, e2]
      have := flatX_get r u (by simp only [List.length_cons] at h; omega)
      have e3 : (x :: r).toArray[u / 5 + 1]! = r.toArray[u / 5]! := by simp
      rw [e3]
      show (flatX r)[u]? = _
      exact this
theorem flatK_toList (l : List (Nat × Chg)) : (flatK encX 5 l.toArray).toList = flatX l := by
  apply List.ext_getElem?
  intro t
  by_cases h : t < l.length * 5
  · rw [flatX_get l t h]
    have hs : t < (flatK encX 5 l.toArray).size := by rw [size_flatK]; simpa using h
    have := get_flatK encX 5 l.toArray t (by simpa using h)
    rw [getElem!_pos _ t hs] at this
    rw [Array.getElem?_toList, Array.getElem?_eq_getElem hs, this]
  · rw [List.getElem?_eq_none (by rw [Array.length_toList, size_flatK]; simp; omega), List.getElem?_eq_none (by rw [flatX_length]; omega)]

/-- A row of files and changes. -/
def OwnX (W : World) (base : Nat) (v : Value) (l : List (Nat × Chg)) : Prop := W.ownsRow base 108 5 v l.length (flatX l)
theorem OwnX.nil (W : World) (base : Nat) : OwnX W base (.slice none 0 0) [] := ⟨rfl, .inl ⟨rfl, rfl⟩⟩
theorem OwnX.own {W : World} {base : Nat} {v : Value} {l : List (Nat × Chg)} (h : OwnX W base v l) : ∀ g, v.ownBlock = some g → base ≤ g ∧ g < W.heap.size := fun g hg => World.ownsRow.lt h g hg
theorem OwnX.form {W : World} {base : Nat} {v : Value} {l : List (Nat × Chg)} (h : OwnX W base v l) : ∃ A cap, v = .slice A l.length cap := by
  rcases h.2 with ⟨rfl, h0⟩ | ⟨g, cap, cur, rfl, _⟩
  · exact ⟨none, 0, by rw [h0]⟩
  · exact ⟨_, _, rfl⟩
theorem OwnX.keep {W W' : World} {base : Nat} {v : Value} {l : List (Nat × Chg)} (h : OwnX W base v l) (hb : ∀ g, v.ownBlock = some g → W'.heap[g]? = W.heap[g]?) : OwnX W' base v l := by
  refine ⟨h.1, ?_⟩
  rcases h.2 with h0 | ⟨g, cap, cur, rfl, h1, h2, h3⟩
  · exact .inl h0
  · exact .inr ⟨g, cap, cur, rfl, h1, (hb g rfl).trans h2, h3⟩
/-- The row's block is a row of such cells. -/
theorem OwnX.tag {W : World} {base : Nat} {v : Value} {l : List (Nat × Chg)} (h : OwnX W base v l) {g : Nat} (hg : v.ownBlock = some g) : ∃ cur, W.heap[g]? = some (.cells cur 108 (0, 0)) := by
  rcases h.2 with ⟨rfl, _⟩ | ⟨g', cap, cur, rfl, _, h2, _⟩
  · cases hg
  · simp only [Value.ownBlock, Option.some.injEq] at hg
    subst hg
    exact ⟨cur, h2⟩

theorem info_ofFile : (Tryz.prog.info? 108).map (fun i => (i.zero, i.size, i.bytes)) = some (some (.agg #[.pointer none, .int .i64 0, .int .i64 0, .int .i64 0, .string ⟨#[]⟩]), 5, 48) := by kernel_rfl

theorem OwnX.append {W : World} {base : Nat} {v : Value} {l : List (Nat × Chg)} (h : OwnX W base v l) (hbase : base ≤ W.heap.size) (x : Nat × Chg) (ty : TypeId) (b : Nat) {tg : TypeId}
    (hb : W.heap[b]? = some (.cells #[.pointer (some ⟨x.1, 0, none⟩), .int .i64 (x.2.n : Nat), .int .i64 (x.2.kind : Nat), .int .i64 (x.2.pos : Nat), .string x.2.s] tg (0, 0))) (hroom : (l.length + 1) * 48 ≤ 140737488355328) :
    ∃ v' W', (Builtin.append_ #[106, 106] ty #[v, .slice (some ⟨b, 0, none⟩) 1 1]).run Tryz.prog W = .ok v' W' ∧ OwnX W' base v' (l ++ [x]) ∧ W.grownBy W' v.ownBlock ∧ (v'.ownBlock = v.ownBlock ∨ v'.ownBlock = some W.heap.size) := by
  obtain ⟨i0, hi, hz0, hz1, hz2⟩ := info_parts info_ofFile
  obtain ⟨v', W', hrun, h2, h3, _, h5⟩ := run_append_own_at (P := Tryz.prog) W base 106 ty 108 i0 _ 5 48 Tryz.underlying106 hi hz0 hz1 hz2 rfl (by decide) v l.length (flatX l) h ⟨b, 0, none⟩ 1 1 (flatX [x]) (flatX_length [x])
    (fun j u hu => by
      rw [Addr.add_lit]
      match j, hu with
      | 0, hu => simp [flatX] at hu; subst hu; simp [World.cell?, hb]
      | 1, hu => simp [flatX] at hu; subst hu; simp [World.cell?, hb]
      | 2, hu => simp [flatX] at hu; subst hu; simp [World.cell?, hb]
      | 3, hu => simp [flatX] at hu; subst hu; simp [World.cell?, hb]
      | 4, hu => simp [flatX] at hu; subst hu; simp [World.cell?, hb]
      | j + 5, hu => simp [flatX] at hu) (flatX_one [x]) (by simp only [maxLen]; omega) hroom hbase
  refine ⟨v', W', hrun, ?_, h3, h5⟩
  show W'.ownsRow _ _ _ _ _ _
  rw [List.length_append, flatX_append]
  exact h2

theorem take_putCells_id (cur F : Array Value) (h : F.size ≤ cur.size) : (putCells id 0 F cur).toList.take F.size = F.toList := by
  apply List.ext_getElem?
  intro j
  by_cases hj : j < F.size
  · rw [List.getElem?_take_of_lt hj, Array.getElem?_toList]
    simp [putCells, hj, show j < cur.size by omega]
  · rw [List.getElem?_take_eq_none (by omega), List.getElem?_eq_none (by simp; omega)]

/-- A row that is sorted by number: the same ones, in their order. -/
theorem OwnX.sort {W : World} {base : Nat} {v : Value} {l m : List (Nat × Chg)} (h : OwnX W base v l) (hp : l.Perm m) (hm : m.Pairwise fun a b => a.2.n < b.2.n) (hlen : l.length ≤ 4294967296) :
    Calls Tryz.prog 62 #[v, .func (.func 63) #[] #[]] W fun e W' => e = .returned (.tuple #[]) ∧ OwnX W' base v m ∧ W.grownBy W' v.ownBlock := by
  by_cases h0 : l.length = 0
  · obtain ⟨A, cap, rfl⟩ := h.form
    have hl : l = [] := List.eq_nil_of_length_eq_zero h0
    subst hl
    have hm0 : m = [] := by simpa using hp.symm.eq_nil
    subst hm0
    have hcon := AnyF.slices_SortFunc_none (P := Tryz.prog) (ρ := _) { Tryz.sortOfFile with } A cap (.func (.func 63) #[] #[]) W
    change Calls Tryz.prog 62 _ _ _ at hcon
    refine hcon.mono ?_
    rintro e W' ⟨rfl, rfl⟩
    exact ⟨rfl, h, rfl, rfl, rfl, Nat.le_refl _, fun _ _ _ => rfl⟩
  · rcases h.2 with ⟨_, h1⟩ | ⟨g, cap, cur, rfl, hbg, hg, hn, hcm, hcs, ht⟩
    · exact absurd h1 h0
    · have hgl := (Array.getElem?_eq_some_iff.1 hg).1
      have hH : HoldsK encX 5 W g 0 l.toArray := by
        intro t ht'
        have ht2 : t < l.length * 5 := by simpa using ht'
        refine ⟨?_, by simp [World.frozen?, hg]⟩
        have h1 : (cur.toList.take (l.length * 5))[t]? = (flatX l)[t]? := by rw [ht]
        rw [List.getElem?_take_of_lt ht2, ← flatK_toList, Array.getElem?_toList, Array.getElem?_toList] at h1
        have hs : t < (flatK encX 5 l.toArray).size := ht'
        simp only [World.cell?, hg, Nat.zero_add, Option.isSome_none, Bool.false_eq_true, if_false]
        rw [h1, Array.getElem?_eq_getElem hs, getElem!_pos _ t hs]
        rfl
      have hcon := sortX_calls g 0 cap l.toArray W hH hgl (by simp; omega)
      simp only [List.size_toArray] at hcon
      refine hcon.mono ?_
      rintro e W' ⟨rfl, d', n, os, hperm, hsort, rfl⟩
      obtain ⟨hsz, _, hpp⟩ := hperm
      have hsz' : d'.size = l.length := by simpa using hsz
      have e1 : d'.extract 0 l.length = d' := by rw [← hsz']; simp
      have e2 : l.toArray.extract 0 l.length = l.toArray := by
        have : l.length = l.toArray.size := by simp
        rw [this]; simp
      rw [e1, e2] at hpp
      have hpm : d'.toList.Perm m := hpp.trans hp
      have hsorted : d'.toList.Pairwise fun a b => a.2.n ≤ b.2.n := by
        rw [List.pairwise_iff_getElem]
        intro i j hi hj hij
        have := hsort i j (Nat.zero_le _) hij (by rw [Array.length_toList] at hj; omega)
        rw [ltX, getElem!_pos d' i (by rw [Array.length_toList] at hi; exact hi), getElem!_pos d' j (by rw [Array.length_toList] at hj; exact hj)] at this
        simp only [decide_eq_false_iff_not, Nat.not_lt] at this
        simpa using this
      have hdm : d'.toList = m := by
        refine List.Perm.eq_of_pairwise (le := fun a b => a.2.n ≤ b.2.n) ?_ hsorted (hm.imp fun h => Nat.le_of_lt h) hpm
        intro a b ha hb h1 h2
        have ha' : a ∈ m := hpm.subset ha
        have he : a.2.n = b.2.n := Nat.le_antisymm h1 h2
        by_cases hab : a = b
        · exact hab
        · exfalso
          obtain ⟨i, hi, hia⟩ := List.getElem_of_mem ha'
          obtain ⟨j, hj, hjb⟩ := List.getElem_of_mem hb
          rw [List.pairwise_iff_getElem] at hm
          rcases Nat.lt_trichotomy i j with h | h | h
          · have := hm i j hi hj h
            rw [hia, hjb] at this; omega
          · subst h
            exact hab (hia.symm.trans hjb)
          · have := hm j i hj hi h
            rw [hia, hjb] at this; omega
      have hml : m.length = l.length := hp.length_eq.symm
      have hda : d' = m.toArray := by rw [← hdm]
      refine ⟨rfl, ⟨by rw [flatX_length], .inr ⟨g, cap, putCells id 0 (flatK encX 5 d') cur, by rw [hml], hbg, ?_, by omega, hcm, by simp [putCells, hcs], ?_⟩⟩, rfl, rfl, rfl, ?_, fun k hk hne => ?_⟩
      · unfold sortWorldK putRowK
        rw [heap_grow_old _ _ (by simp [putRow, mapBlock, Sort.ahead]; exact hgl)]
        simp [putRow, mapBlock, Sort.ahead, Array.getElem?_modify, hg, onCells]
      · have hFs : (flatK encX 5 d').size = m.length * 5 := by rw [size_flatK, hsz', hml]
        rw [← hFs, take_putCells_id _ _ (by rw [hFs, hcs, hml]; exact Nat.mul_le_mul_right 5 hn), hda, flatK_toList]
      · simp [sortWorldK, putRowK, putRow, mapBlock, Sort.ahead, grow]
      · unfold sortWorldK putRowK
        rw [heap_grow_old _ _ (by simp [putRow, mapBlock, Sort.ahead]; exact hk)]
        have : g ≠ k := fun e => hne (by simp [Value.ownBlock, e])
        simp [putRow, mapBlock, Sort.ahead, Array.getElem?_modify, this]

end Go.Proofs.YtnhkpemajknfnaaGreatDoor.Disk

/-
  Contract of the disk's changes: all files' changes, in the order of their numbers.
-/
namespace Go.Proofs.YtnhkpemajknfnaaGreatDoor.Disk
open Go Go.RowKit Go.Lib Go.Sort Go.Proofs.YtnhkpemajknfnaaGreatDoor.Law

/-- A file's changes with its block. -/
def tagged (F : ByteArray → Option Nat) (s : ByteArray) (l : List Chg) : List (Nat × Chg) := l.map fun c => ((F s).getD 0, c)
def allTagged (F : ByteArray → Option Nat) (l : List (ByteArray × Chg)) : List (Nat × Chg) := l.map fun x => ((F x.1).getD 0, x.2)

theorem flatMap_same {α β : Type} (f g : α → List β) : ∀ l : List α, (∀ x ∈ l, f x = g x) → l.flatMap f = l.flatMap g
  | [], _ => rfl
  | c :: l, h => by rw [List.flatMap_cons, List.flatMap_cons, h c (by simp), flatMap_same f g l (fun x hx => h x (List.mem_cons_of_mem _ hx))]
theorem perm_insert {α β : Type} (f g : α → List β) (y : β) (a : α) (hfg : ∀ x, x ≠ a → f x = g x) (ha : f a = y :: g a) : ∀ names : List α, names.Nodup → a ∈ names → (names.flatMap f).Perm (y :: names.flatMap g)
  | [], _, h => by simp at h
  | b :: r, hn, h => by
    rw [List.nodup_cons] at hn
    rw [List.flatMap_cons, List.flatMap_cons]
    by_cases hb : b = a
    · subst hb
      rw [flatMap_same f g r (fun x hx => hfg x (fun e => hn.1 (e ▸ hx))), ha]
      exact List.Perm.refl _
    · have h2 : a ∈ r := by
        rcases List.mem_cons.1 h with e | e
        · exact absurd e.symm hb
        · exact e
      have ih := perm_insert f g y a hfg ha r hn.2 h2
      rw [hfg b hb]
      exact (List.Perm.append_left _ ih).trans List.perm_middle
theorem perm_tagged (F : ByteArray → Option Nat) (names : List ByteArray) (hn : names.Nodup) : ∀ l : List (ByteArray × Chg), (∀ x ∈ l, x.1 ∈ names) → (names.flatMap fun s => tagged F s (mine s l)).Perm (allTagged F l)
  | [], _ => by
    have : (names.flatMap fun s => tagged F s (mine s [])) = [] := by
      rw [List.flatMap_eq_nil_iff]
      intro s _
      rfl
    rw [this]
    exact List.Perm.refl _
  | x :: l, h => by
    have ih := perm_tagged F names hn l (fun y hy => h y (List.mem_cons_of_mem _ hy))
    refine (perm_insert _ (fun s => tagged F s (mine s l)) ((F x.1).getD 0, x.2) x.1 (fun s hs => ?_) ?_ names hn (h x (by simp))).trans (ih.cons _)
    · rw [mine_cons, if_neg (Ne.symm hs)]; rfl
    · rw [mine_cons, if_pos rfl]; rfl
theorem perm_erase_flat {α β : Type} [BEq α] [LawfulBEq α] (f : α → List β) {l : List α} {a : α} (h : a ∈ l) : (l.flatMap f).Perm (f a ++ (l.erase a).flatMap f) := by
  have := (List.perm_cons_erase h).flatMap_right f
  rwa [List.flatMap_cons] at this

/-- A variable that holds a row. -/
def BoxX (W : World) (b : Nat) (v : Value) : Prop := W.heap[b]? = some (.cells #[v] 106 (0, 0))
theorem BoxX.cell {W : World} {b : Nat} {v : Value} (h : BoxX W b v) : W.cell? ⟨b, 0, none⟩ = some v ∧ W.frozen? ⟨b, 0, none⟩ = false := by
  unfold BoxX at h
  constructor <;> simp [World.cell?, World.frozen?, h]

/-- One more in the row, by way of two new blocks. -/
theorem row_step {W : World} {bx : Nat} {v : Value} {l : List (Nat × Chg)} (hb : BoxX W bx v) (h : OwnX W (bx + 2) v l) (hs : bx + 2 ≤ W.heap.size) (x : Nat × Chg) (ty : TypeId) (hroom : l.length ≤ 4294967296) :
    ∃ A n c W2, (Builtin.append_ #[106, 106] ty #[v, .slice (some ⟨W.heap.size + 1, 0, none⟩) 1 1]).run Tryz.prog ((W.alloc (.cells #[.int .i64 (x.2.n : Nat), .int .i64 (x.2.kind : Nat), .int .i64 (x.2.pos : Nat), .string x.2.s] 73)).alloc (.cells #[.pointer (some ⟨x.1, 0, none⟩), .int .i64 (x.2.n : Nat), .int .i64 (x.2.kind : Nat), .int .i64 (x.2.pos : Nat), .string x.2.s] 108)) = .ok (.slice A n c) W2 ∧
      BoxX W2 bx v ∧ BoxX (W2.setCell ⟨bx, 0, none⟩ (.slice A n c)) bx (.slice A n c) ∧ OwnX (W2.setCell ⟨bx, 0, none⟩ (.slice A n c)) (bx + 2) (.slice A n c) (l ++ [x]) ∧
      (∀ k, k < W.heap.size → k ≠ bx → v.ownBlock ≠ some k → (W2.setCell ⟨bx, 0, none⟩ (.slice A n c)).heap[k]? = W.heap[k]?) ∧ W.heap.size ≤ (W2.setCell ⟨bx, 0, none⟩ (.slice A n c)).heap.size ∧
      (W2.setCell ⟨bx, 0, none⟩ (.slice A n c)).os = W.os ∧ (W2.setCell ⟨bx, 0, none⟩ (.slice A n c)).tape = W.tape ∧ (W2.setCell ⟨bx, 0, none⟩ (.slice A n c)).output = W.output := by
  obtain ⟨W1, hW1⟩ : ∃ W1, ((W.alloc (.cells #[.int .i64 (x.2.n : Nat), .int .i64 (x.2.kind : Nat), .int .i64 (x.2.pos : Nat), .string x.2.s] 73)).alloc (.cells #[.pointer (some ⟨x.1, 0, none⟩), .int .i64 (x.2.n : Nat), .int .i64 (x.2.kind : Nat), .int .i64 (x.2.pos : Nat), .string x.2.s] 108)) = W1 := ⟨_, rfl⟩
  rw [hW1]
  have hB : Below W.heap.size W W1 := by rw [← hW1]; exact ((Below.refl _ _).alloc (Nat.le_refl _) _).alloc (by simp) _
  have hsz : W1.heap.size = W.heap.size + 2 := by rw [← hW1]; simp
  have hnew : W1.heap[W.heap.size + 1]? = some (.cells #[.pointer (some ⟨x.1, 0, none⟩), .int .i64 (x.2.n : Nat), .int .i64 (x.2.kind : Nat), .int .i64 (x.2.pos : Nat), .string x.2.s] 108 (0, 0)) := by
    rw [← hW1]
    have := heap_alloc_new (W.alloc (.cells #[.int .i64 (x.2.n : Nat), .int .i64 (x.2.kind : Nat), .int .i64 (x.2.pos : Nat), .string x.2.s] 73)) (.cells #[.pointer (some ⟨x.1, 0, none⟩), .int .i64 (x.2.n : Nat), .int .i64 (x.2.kind : Nat), .int .i64 (x.2.pos : Nat), .string x.2.s] 108)
    rwa [World.size_alloc] at this
  have hO := h.keep (W' := W1) fun g hg => hB.block g (h.own g hg).2
  obtain ⟨v', W2, hrun, h1, h2, h3⟩ := hO.append (by omega) x ty (W.heap.size + 1) hnew (by omega)
  obtain ⟨A, c, rfl⟩ := h1.form
  have hvb : v.ownBlock ≠ some bx := fun e => by have := (h.own bx e).1; omega
  have hb2 : BoxX W2 bx v := (h2.block bx (by omega) (fun e => hvb e.symm)).trans ((hB.block bx (by omega)).trans hb)
  refine ⟨A, _, c, W2, hrun, hb2, ?_, h1.keep fun g hg => Below.heap_setCell _ _ _ _ (by have := (h1.own g hg).1; show g ≠ bx; omega), fun k hk hne hv => ?_, ?_, ?_, ?_, ?_⟩
  · exact (block_set hb2 0 _).trans (by simp)
  · rw [Below.heap_setCell _ _ _ _ hne, h2.block k (by omega) (fun e => hv e.symm), hB.block k hk]
  · have := h2.size; simp only [World.setCell, Array.size_modify]; omega
  · exact h2.os.trans hB.os
  · exact h2.tape.trans hB.tape
  · exact h2.output.trans hB.output

/-- What changes leaves: an iterator over the row. -/
def ChangesOut (w : World) (F : ByteArray → Option Nat) (D : DS) (e : Ending) (W : World) : Prop :=
  ∃ v, e = .returned (.func (.func 65) #[] #[.pointer (some ⟨w.heap.size, 0, none⟩)]) ∧ BoxX W w.heap.size v ∧ OwnX W (w.heap.size + 2) v (allTagged F D.chs) ∧ Below w.heap.size w W

set_option maxRecDepth 100000 in
set_option maxHeartbeats 4000000 in
theorem changes_calls (w : World) (O : Owner) (db mb : Nat) (D : DS) (F : ByteArray → Option Nat) (hc : Core w O db mb D F) (hf : ∀ s ∈ D.names, ∃ fb, F s = some fb ∧ FileAt w O (db + 1) s fb (D.now s) (D.safe s) (mine s D.chs)) (hw : WF D) (hmade : D.made ≤ 4294967296) :
    Calls Tryz.prog 39 #[.pointer (some ⟨db, 0, none⟩)] w (ChangesOut w F D) := by
  obtain ⟨n, hn, hm⟩ := hc.map
  have hdb := hc.disk.lt
  have hmbl := hm.lt
  -- the box, and the range behind it
  have hm1 := hm.at (W' := w.alloc (.cells #[.slice none 0 0] 106)) (Below.heap_alloc _ _ _ hmbl)
  obtain ⟨w', cnt, hrun, hR, hG, hS⟩ := hm1.rng Tryz.underlying9 Tryz.underlying60 D.names hw.nodup (fun s hs => hw.short hs) hc.dom
  rw [World.size_alloc] at hrun hR hS
  have hB0 : Below w.heap.size w w' := ((Below.refl _ _).alloc (Nat.le_refl _) (.cells #[.slice none 0 0] 106)).grown hG (by simp) (fun k e => by cases e)
  have hbox0 : BoxX w' w.heap.size (.slice none 0 0) := (hG.block _ (by simp) (by simp)).trans (heap_alloc_new w _)
  have hperm0 : (([] : List (Nat × Chg)) ++ D.names.flatMap fun s => tagged F s (mine s D.chs)).Perm (allTagged F D.chs) := perm_tagged F D.names hw.nodup D.chs (fun x hx => (hw.names x.1).2 (.inr (.inr ⟨x.2, hx⟩)))
  have hlen : (allTagged F D.chs).length ≤ 4294967296 := by unfold allTagged; rw [List.length_map]; have := hw.len; omega
  have hasc : (allTagged F D.chs).Pairwise fun a b => a.2.n < b.2.n := by
    unfold allTagged
    rw [List.pairwise_map]
    exact hw.asc
  obtain ⟨⟨d0, _⟩, _⟩ := hc.disk.cells
  have d0a : (w.alloc (.cells #[.slice none 0 0] 106)).cell? ⟨db, 0, none⟩ = some (.map (some mb)) := (((Below.refl _ _).alloc (Nat.le_refl _) _).cell (p := ⟨db, 0, none⟩) hdb).trans d0
  -- a file's row of changes
  have HF : Hid (∀ s ∈ D.names, ∀ g, F s = some g → g < w.heap.size ∧ ∃ A c, w.cell? ⟨g, 5, none⟩ = some (.slice A (mine s D.chs).length c) ∧ (mine s D.chs).length ≤ c ∧ ∀ i (hi : i < (mine s D.chs).length), ∃ cg, A = some ⟨cg, 0, none⟩ ∧ cg < w.heap.size ∧
      w.cell? ⟨cg, i * 4, none⟩ = some (.int .i64 ((mine s D.chs)[i].n : Nat)) ∧ w.cell? ⟨cg, i * 4 + 1, none⟩ = some (.int .i64 ((mine s D.chs)[i].kind : Nat)) ∧ w.cell? ⟨cg, i * 4 + 2, none⟩ = some (.int .i64 ((mine s D.chs)[i].pos : Nat)) ∧ w.cell? ⟨cg, i * 4 + 3, none⟩ = some (.string (mine s D.chs)[i].s)) := Lib.hid fun s hs g hg => by
    obtain ⟨v, hv⟩ := DiskAt.files hf hs hg
    obtain ⟨v1, _, _, _, v5, _⟩ := hv
    refine ⟨v1.lt, v.ca, v.cc, v1.cells.1.2.2.2.2.2, ?_, fun i hi => ?_⟩
    · rcases v5.2 with ⟨h1, h2⟩ | ⟨cg, cap, cur, h1, _, _, h3, _⟩
      · simp only [KV.chs, Value.slice.injEq] at h1
        omega
      · simp only [KV.chs, Value.slice.injEq] at h1
        obtain ⟨_, _, rfl⟩ := h1
        exact h3
    · rcases v5.2 with ⟨_, h2⟩ | ⟨cg, cap, cur, h1, _, h2, h3, h4, h5, h6⟩
      · omega
      · simp only [KV.chs, Value.slice.injEq] at h1
        have hcell : ∀ j u, (flatC (mine s D.chs))[j]? = some u → w.cell? ⟨cg, j, none⟩ = some u := fun j u hu => by
          have hj : j < (mine s D.chs).length * 4 := by have := (List.getElem?_eq_some_iff.1 hu).1; rwa [flatC_length] at this
          simp only [World.cell?, h2, Option.isSome_none, Bool.false_eq_true, if_false]
          rw [← Array.getElem?_toList, ← List.getElem?_take_of_lt hj, h6]
          exact hu
        have hflat : ∀ (l : List Chg) (i : Nat) (hi : i < l.length), (flatC l)[i * 4]? = some (.int .i64 (l[i].n : Nat)) ∧ (flatC l)[i * 4 + 1]? = some (.int .i64 (l[i].kind : Nat)) ∧ (flatC l)[i * 4 + 2]? = some (.int .i64 (l[i].pos : Nat)) ∧ (flatC l)[i * 4 + 3]? = some (.string l[i].s) := fun l => by
          induction l with
          | nil => intro i hi; simp at hi
          | cons c r ih =>
            intro i hi
            cases i with
            | zero => exact ⟨rfl, rfl, rfl, rfl⟩
            | succ i =>
              have := ih i (by simpa using hi)
              have e : (i + 1) * 4 = i * 4 + 4 := by omega
              rw [e]
              exact this
        obtain ⟨f0, f1, f2, f3⟩ := hflat (mine s D.chs) i hi
        exact ⟨cg, h1.1, (Array.getElem?_eq_some_iff.1 h2).1, hcell _ _ f0, hcell _ _ f1, hcell _ _ f2, hcell _ _ f3⟩
  have HMS : Hid (∀ s, (mine s D.chs).length ≤ 4294967296) := Lib.hid fun s => Nat.le_trans (hw.mineLe s) hmade
  obtain ⟨L, hL⟩ : ∃ L, allTagged F D.chs = L := ⟨_, rfl⟩
  unfold ChangesOut
  rw [hL] at hperm0 hlen hasc ⊢
  have HRUN := Lib.hid hrun
  have H0 := Lib.hid (And.intro hR (And.intro hB0 (And.intro hbox0 hperm0)))
  have HL := Lib.hid (And.intro hlen hasc)
  have hdbw : db < w.heap.size := hdb
  have hs2 : w'.heap.size = w.heap.size + 2 := hS
  clear hc hf hw hm hm1 hrun hR hG hS hB0 hbox0 hperm0 hlen hasc hL hmade d0
  go_enter Tryz.func39, Tryz.ntmps39
  go_wp2_with (first | (at_range; refine wpList_range_ran rfl _ _ rfl rfl HRUN.out ?_))
  go_frame
  go_loopw [5] (fun _ wr => ∃ (rest : List ByteArray) (col : List (Nat × Chg)) (c : Nat) (v : Value), Rng Tryz.prog 9 wr mb (w.heap.size + 1) n F rest c ∧ Hid (BoxX wr w.heap.size v) ∧ Hid (OwnX wr (w.heap.size + 2) v col) ∧ Hid ((col ++ rest.flatMap fun s => tagged F s (mine s D.chs)).Perm L) ∧ Hid (Below w.heap.size w wr) ∧ w.heap.size + 2 ≤ wr.heap.size ∧ ∀ s ∈ rest, s ∈ D.names)
    (fun _ wr => wr.rangeLeft mb (w.heap.size + 1))
  case atStart => exact ⟨D.names, [], cnt, _, H0.out.1, Lib.hid H0.out.2.2.1, Lib.hid (OwnX.nil _ _), Lib.hid H0.out.2.2.2, Lib.hid H0.out.2.1, by omega, fun _ h => h⟩
  case round =>
    obtain ⟨rest, col, c, v, hrng, HBX, HO, HP, HB, hsz, hsub⟩ := hrel
    have hleft := hrng.left
    rcases hrng.next Tryz.underlying9 0 with ⟨rfl, hnx⟩ | ⟨s, g, w1, c1, hs, hF, hnx, hrng1, hlt, hg1, hs1, hen⟩
    · have HNX := Lib.hid hnx
      have hO := HO.out
      obtain ⟨A, cc, rfl⟩ := hO.form
      have hp : col.Perm L := by have := HP.out; simpa using this
      have hgo : ∀ k, (Value.slice A col.length cc).ownBlock = some k → w.heap.size ≤ k ∧ k ≠ w.heap.size := fun k hk => by have := (hO.own k hk).1; omega
      have CS : Hid (Calls Tryz.prog 62 #[.slice A col.length cc, .func (.func 63) #[] #[]] wr fun e W' => e = .returned (.tuple #[]) ∧ Hid (BoxX W' w.heap.size (.slice A col.length cc) ∧ OwnX W' (w.heap.size + 2) (.slice A col.length cc) L ∧ Below w.heap.size w W')) := Lib.hid ((hO.sort hp HL.out.2 (by have := hp.length_eq; have := HL.out.1; omega)).mono fun e W' h => ⟨h.1, Lib.hid ⟨(h.2.2.block w.heap.size (by omega) (fun e => (hgo _ e.symm).2 rfl)).trans HBX.out, h.2.1, HB.out.grown h.2.2 HB.out.size (fun k e => (hgo k e).1)⟩⟩)
      obtain ⟨b0, b1⟩ := HBX.out.cell
      clear hnx hrng hleft hO hp hgo HP
      go_wp2_with (first | (at_next; refine wpList_next_ran rfl _ _ rfl rfl HNX.out ?_))
      refine CS.out.mono ?_
      rintro e W' ⟨rfl, HE⟩
      go_wp2_with fail
      go_ret
      exact ⟨_, rfl, HE.out⟩
    · have HNX := Lib.hid hnx
      have HEN := Lib.hid hen
      obtain ⟨hgl, A, cc, hcell, hcapA, hch⟩ := HF.out s (hsub s hs) g hF
      have hB1 : Below w.heap.size w w1 := HB.out.grown hg1 HB.out.size (fun k e => by cases e; exact Nat.le_succ _)
      have hcell1 : w1.cell? ⟨g, 5, none⟩ = some (.slice A (mine s D.chs).length cc) := (hB1.cell (p := ⟨g, 5, none⟩) hgl).trans hcell
      have hrb : ∀ k, v.ownBlock = some k → k ≠ w.heap.size + 1 := fun k hk e => by
        subst e
        obtain ⟨cur, h1⟩ := HO.out.tag hk
        obtain ⟨_, _, _, _, h2⟩ := hrng.isIter
        rw [h1] at h2; cases h2
      have hbox1 : BoxX w1 w.heap.size v := (hg1.block _ (by omega) (by simp)).trans HBX.out
      have hO1 : OwnX w1 (w.heap.size + 2) v col := HO.out.keep fun k hk => hg1.block k (HO.out.own k hk).2 (fun e => hrb k hk (by simpa using e))
      have hp1 : (col ++ (tagged F s (mine s D.chs) ++ (rest.erase s).flatMap fun s => tagged F s (mine s D.chs))).Perm L := ((perm_erase_flat _ hs).symm.append_left col).trans HP.out
      have hcolL : col.length + (mine s D.chs).length ≤ 4294967296 := by
        have h1 := hp1.length_eq
        have h2 := HL.out.1
        simp only [List.length_append, tagged, List.length_map] at h1
        omega
      have hFg : (F s).getD 0 = g := by rw [hF]; rfl
      have htag : ∀ i (hi : i < (mine s D.chs).length), tagged F s ((mine s D.chs).take (i + 1)) = tagged F s ((mine s D.chs).take i) ++ [(g, (mine s D.chs)[i])] := fun i hi => by
        unfold tagged
        rw [List.take_succ_eq_append_getElem hi, List.map_append, hFg]
        rfl
      have hall : tagged F s ((mine s D.chs).take (mine s D.chs).length) = tagged F s (mine s D.chs) := by rw [List.take_length]
      have hml := HMS.out s
      obtain ⟨ms, hms⟩ : ∃ ms, mine s D.chs = ms := ⟨_, rfl⟩
      rw [hms] at hcell1 hch hcapA hp1 hcolL htag hall hml
      obtain ⟨ml, hml2⟩ : ∃ ml, ms.length = ml := ⟨_, rfl⟩
      have hsub1 : ∀ x ∈ rest.erase s, x ∈ D.names := fun x hx => hsub x (List.mem_of_mem_erase hx)
      have H1 := Lib.hid (And.intro hrng1 (And.intro hbox1 (And.intro hO1 (And.intro hp1 hB1))))
      have HCH := Lib.hid hch
      have HT := Lib.hid (And.intro htag hall)
      have HSUB := Lib.hid hsub1
      have hsz1 : w.heap.size + 2 ≤ w1.heap.size := by omega
      have HLEFT := Lib.hid (And.intro hleft hlt)
      have HML := Lib.hid hml2
      rw [hml2] at hcell1 hcapA hcolL hml
      have hcapI : (ml : Int) ≤ (cc : Int) := by omega
      clear hnx hen hrng hrng1 hcell hB1 hg1 hbox1 hO1 hp1 hch htag hall hms hsub hsub1 HP HB HO HBX hrb hleft hF hFg hlt hml2 hcapA hs hs1 hsz
      go_wp2_with (first | (at_next; refine wpList_next_ran rfl _ _ rfl rfl HNX.out ?_) | (refine wpList_entry_ran (o := ⟨some 15, _, _, _, _, _⟩) rfl _ rfl rfl HEN.out ?_))
      go_loopw [22] (fun i wq => ∃ (k : Nat) (col2 : List (Nat × Chg)) (v2 : Value), i = .int .i64 k ∧ k ≤ ml ∧ Hid (Rng Tryz.prog 9 wq mb (w.heap.size + 1) n F (rest.erase s) c1) ∧ Hid (BoxX wq w.heap.size v2) ∧ Hid (OwnX wq (w.heap.size + 2) v2 col2) ∧ Hid (col2 = col ++ tagged F s (ms.take k)) ∧ Hid (Below w.heap.size w wq) ∧ w.heap.size + 2 ≤ wq.heap.size)
        (fun i _ => ml - (intOf i).toNat)
      case atStart => exact ⟨0, col, v, rfl, Nat.zero_le _, Lib.hid H1.out.1, Lib.hid H1.out.2.1, Lib.hid H1.out.2.2.1, Lib.hid (by simp [tagged]), Lib.hid H1.out.2.2.2.2, hsz1⟩
      case round =>
        obtain ⟨k, col2, v2, rfl, hk, HR2, HBX2, HO2, HC2, HB2, hsz2⟩ := hrel
        by_cases hlt : k < ml
        · obtain ⟨cg, rfl, hcg, f0, f1, f2, f3⟩ := HCH.out k (by rw [HML.out]; exact hlt)
          have p0 := (HB2.out.cell (p := ⟨cg, k * 4, none⟩) hcg).trans f0
          have p1 := (HB2.out.cell (p := ⟨cg, k * 4 + 1, none⟩) hcg).trans f1
          have p2 := (HB2.out.cell (p := ⟨cg, k * 4 + 2, none⟩) hcg).trans f2
          have p3 := (HB2.out.cell (p := ⟨cg, k * 4 + 3, none⟩) hcg).trans f3
          obtain ⟨x, hx⟩ : ∃ x, ms[k]'(by rw [HML.out]; exact hlt) = x := ⟨_, rfl⟩
          rw [hx] at p0 p1 p2 p3
          have hl2 : col2.length ≤ 4294967296 := by
            rw [HC2.out, List.length_append]
            unfold tagged
            rw [List.length_map, List.length_take]
            have : Nat.min k ms.length ≤ ml := Nat.le_trans (Nat.min_le_left _ _) hk
            exact Nat.le_trans (Nat.add_le_add_left this _) hcolL
          obtain ⟨A3, n3, c3, W2, hrun, hb2, hb3, ho3, hfr, hsz3, hos, htp, hout⟩ := row_step HBX2.out HO2.out hsz2 (g, x) 106 hl2
          have hown2 := HO2.out.own
          have hvmb : v2.ownBlock ≠ some mb := fun e => by have := (hown2 mb e).1; omega
          have hvr : v2.ownBlock ≠ some (w.heap.size + 1) := fun e => by have := (hown2 _ e).1; omega
          have hR3 : Rng Tryz.prog 9 (W2.setCell ⟨w.heap.size, 0, none⟩ (.slice A3 n3 c3)) mb (w.heap.size + 1) n F (rest.erase s) c1 := HR2.out.at (hfr mb (by have := HB2.out.size; omega) (by omega) hvmb) (hfr _ (by omega) (by omega) hvr)
          have hB3 : Below w.heap.size w (W2.setCell ⟨w.heap.size, 0, none⟩ (.slice A3 n3 c3)) := ⟨hos.trans HB2.out.os, htp.trans HB2.out.tape, hout.trans HB2.out.output, Nat.le_trans HB2.out.size hsz3, fun j hj => (hfr j (by have := HB2.out.size; omega) (by omega) (fun e => by have := (hown2 j e).1; omega)).trans (HB2.out.block j hj)⟩
          have hc3 : col2 ++ [(g, x)] = col ++ tagged F s (ms.take (k + 1)) := by
            rw [HT.out.1 k (by rw [HML.out]; exact hlt), ← List.append_assoc, ← HC2.out, hx]
          have H3 := Lib.hid (And.intro hR3 (And.intro hb3 (And.intro ho3 (And.intro hc3 (And.intro hB3 (Nat.le_trans hsz2 hsz3))))))
          have HRUN2 := Lib.hid hrun
          obtain ⟨b0, b1⟩ := HBX2.out.cell
          obtain ⟨b2, b3⟩ := hb2.cell
          have hltI : (k : Int) < (ml : Int) := by omega
          have b0a : ∀ o, (wr.alloc o).cell? ⟨w.heap.size, 0, none⟩ = some v2 := fun o => (((Below.refl _ wr).alloc (Nat.le_refl _) o).cell (p := ⟨w.heap.size, 0, none⟩) (by show w.heap.size < wr.heap.size; omega)).trans b0
          clear hR3 hb3 ho3 hc3 hB3 hrun hb2 hfr hos htp hout hown2 hvmb hvr f0 f1 f2 f3 hx hsz3 HR2 HBX2 HO2 HC2 HB2 hl2
          go_wp2_with (first | (at_builtin; refine wpList_append_ran rfl _ _ _ rfl rfl rfl HRUN2.out ?_))
          go_roundw
          case rel => exact ⟨k + 1, _, _, by go_num, by omega, Lib.hid H3.out.1, Lib.hid H3.out.2.1, Lib.hid H3.out.2.2.1, Lib.hid H3.out.2.2.2.1, Lib.hid H3.out.2.2.2.2.1, H3.out.2.2.2.2.2⟩
          case measure => simp [intOf]; omega
        · obtain rfl : k = ml := by omega
          have hpn : (col2 ++ (rest.erase s).flatMap fun s => tagged F s (mine s D.chs)).Perm L := by
            have h1 := H1.out.2.2.2.1
            rw [HC2.out, ← HML.out, HT.out.2, List.append_assoc]
            exact h1
          have HPN := Lib.hid hpn
          have hl2 := HR2.out.left
          clear hpn
          go_wp2_with fail
          go_roundw
          case rel => exact ⟨rest.erase s, col2, c1, v2, HR2.out, HBX2, HO2, HPN, HB2, hsz2, HSUB.out⟩
          case measure => rw [hl2, HLEFT.out.1]; exact HLEFT.out.2

end Go.Proofs.YtnhkpemajknfnaaGreatDoor.Disk

/-
  Contract of disk's behindCrash: a durable file behind the crash that came upon a change.
-/
namespace Go.Proofs.YtnhkpemajknfnaaGreatDoor.Disk
open Go Go.RowKit Go.Lib Go.Proofs.YtnhkpemajknfnaaGreatDoor.Law

/-- A durable file behind the crash that came upon a change. -/
def behindD (c : Chg) (p : Int) (o : Option (List Nat)) : Option (List Nat) :=
  if c.kind = 0 then (if 0 < min p (c.s.size : Int) ∧ c.pos ≤ szO o then some (overL (o.getD []) c.pos ((bytesS c.s).take (min p (c.s.size : Int)).toNat)) else o)
  else if c.kind = 1 then (if 0 < p ∧ c.pos < szO o then some ((o.getD []).take c.pos) else o)
  else if 0 < p then none else o

/-- What behindCrash leaves. -/
def Behind (w : World) (base : Nat) (v : Value) (o : Option (List Nat)) (e : Ending) (W : World) : Prop :=
  ∃ v', e = .returned (.agg #[.bool o.isSome, v']) ∧ Buf W base 5 v' (o.getD []) ∧ w.grownBy W v.ownBlock ∧ ∀ g, v'.ownBlock = some g → v.ownBlock = some g ∨ w.heap.size ≤ g

theorem behind_same {w W : World} {base : Nat} {v : Value} {o : Option (List Nat)} (h : Buf w base 5 v (o.getD [])) (hB : Below w.heap.size w W) : Behind w base v o (.returned (.agg #[.bool o.isSome, v])) W :=
  ⟨v, rfl, h.below hB, ⟨hB.os, hB.tape, hB.output, hB.size, fun k hk _ => hB.block k hk⟩, fun _ hg => .inl hg⟩

theorem extract_take (s : ByteArray) (n : Nat) : bytesS (s.extract 0 n) = (bytesS s).take n := by
  unfold bytesS
  rw [ByteArray.data_extract, Array.toList_extract, List.map_take]
  congr 1

theorem own_any (A : Option Addr) (n c n' c' : Nat) : (Value.slice A n c).ownBlock = (Value.slice A n' c').ownBlock := by
  cases A with
  | none => rfl
  | some a => rfl
theorem three_new (w : World) (a b : Obj) (x y : Value) (t : TypeId) : (((w.alloc a).alloc b).alloc (.cells #[x, y] t)).heap[w.heap.size + 1 + 1]? = some (.cells #[x, y] t (0, 0)) := by
  have := heap_alloc_new ((w.alloc a).alloc b) (.cells #[x, y] t)
  rwa [World.size_alloc, World.size_alloc] at this

set_option maxRecDepth 100000 in
set_option maxHeartbeats 4000000 in
theorem behind_calls (w : World) (base : Nat) (A : Option Addr) (cap : Nat) (o : Option (List Nat)) (h : Buf w base 5 (.slice A (szO o) cap) (o.getD [])) (hbase : base ≤ w.heap.size) (ho : szO o ≤ 1073741824) (c : Chg) (hc : c.pos + c.s.size ≤ 1073741824) (hk : c.kind ≤ 2) (p : Int) :
    Calls Tryz.prog 40 #[.agg #[.bool o.isSome, .slice A (szO o) cap], .agg #[.int .i64 (c.n : Nat), .int .i64 (c.kind : Nat), .int .i64 (c.pos : Nat), .string c.s], .int .i64 p] w (Behind w base (.slice A (szO o) cap) (behindD c p o)) := by
  obtain ⟨cn, ck, cp, cs⟩ := c
  simp only at hc hk ⊢
  have HS : Hid (∀ W, Below w.heap.size w W → Behind w base (.slice A (szO o) cap) o (.returned (.agg #[.bool o.isSome, .slice A (szO o) cap])) W) := Lib.hid fun W hB => behind_same h hB
  have HB3 : Hid (∀ a b c, Below w.heap.size w (((w.alloc a).alloc b).alloc c)) := Lib.hid fun a b c => (((Below.refl w.heap.size w).alloc (Nat.le_refl _) a).alloc (by simp) b).alloc (by simp; omega) c
  obtain ⟨nt, hnt⟩ : ∃ nt, o.isSome = nt := ⟨_, rfl⟩
  obtain ⟨sz, hsz⟩ : ∃ sz, szO o = sz := ⟨_, rfl⟩
  rcases (show ck = 0 ∨ ck = 1 ∨ ck = 2 by omega) with rfl | rfl | rfl
  · by_cases hn : 0 < min p (cs.size : Int) ∧ cp ≤ szO o
    · obtain ⟨m, hm⟩ : ∃ m : Nat, min p (cs.size : Int) = (m : Nat) := ⟨(min p (cs.size : Int)).toNat, by omega⟩
      have hD : behindD ⟨cn, 0, cp, cs⟩ p o = some (overL (o.getD []) cp (bytesS (cs.extract 0 m))) := by
        unfold behindD; rw [if_pos rfl, if_pos hn]
        simp only [hm, Int.toNat_natCast, extract_take]
      rw [hD]
      have hm1 : 0 < m := by omega
      have hm2 : m ≤ cs.size := by omega
      have hcp : cp ≤ szO o := hn.2
      have CW : Hid (∀ W0, Below w.heap.size w W0 → w.heap.size + 3 ≤ W0.heap.size → Calls Tryz.prog 56 #[.agg #[.bool nt, .slice A sz cap], .int .i64 (cp : Nat), .string (cs.extract 0 m)] W0 fun e W2 => ∃ A' l' k', e = .returned (.agg #[.bool true, .slice A' l' k']) ∧
          (∀ j, w.heap.size ≤ j → j < W0.heap.size → W2.heap[j]? = W0.heap[j]?) ∧
          Hid (Behind w base (.slice A sz cap) (some (overL (o.getD []) cp (bytesS (cs.extract 0 m)))) (.returned (.agg #[.bool true, .slice A' l' k'])) ((W2.setCell ⟨w.heap.size + 1 + 1, 0, none⟩ (.bool true)).setCell ⟨w.heap.size + 1 + 1, 1, none⟩ (.slice A' l' k')))) := Lib.hid fun W0 hB hW0 => by
        rw [← hsz]
        have hown := h.own
        refine (written_calls nt (.slice A (szO o) cap) (o.getD []) cp (by rw [szO_getD]; exact hcp) (cs.extract 0 m) (by rw [szO_getD]; simp; omega) base W0 (h.below hB) (by have := hB.size; omega)).mono ?_
        rintro e W2 ⟨v', rfl, hbuf, hgr, hor, _, _⟩
        obtain ⟨A', k', rfl, _⟩ := hbuf.form
        have hvne : ∀ g, (Value.slice A' (overL (o.getD []) cp (bytesS (cs.extract 0 m))).length k').ownBlock = some g → (Value.slice A (szO o) cap).ownBlock = some g ∨ W0.heap.size ≤ g := fun g hg => by
          rcases hor with h1 | ⟨g2, h1, h2⟩
          · exact .inl (h1.symm.trans hg)
          · rw [hg] at h1
            have : g = g2 := by simpa using h1
            exact .inr (by omega)
        have hset : ∀ j, j ≠ w.heap.size + 1 + 1 → ((W2.setCell ⟨w.heap.size + 1 + 1, 0, none⟩ (.bool true)).setCell ⟨w.heap.size + 1 + 1, 1, none⟩ (.slice A' (overL (o.getD []) cp (bytesS (cs.extract 0 m))).length k')).heap[j]? = W2.heap[j]? := fun j hj => by
          rw [Below.heap_setCell _ _ _ _ hj, Below.heap_setCell _ _ _ _ hj]
        refine ⟨A', _, k', rfl, fun j h1 h2 => hgr.block j h2 (fun e => by have := (hown j e.symm).2; omega), Lib.hid ⟨_, rfl, ?_, ⟨?_, ?_, ?_, ?_, fun k hk hne => ?_⟩, fun g hg => ?_⟩⟩
        · refine hbuf.keep fun g hg => hset g ?_
          rcases hvne g hg with h1 | h1
          · have := (hown g h1).2; omega
          · omega
        · exact hgr.os.trans hB.os
        · exact hgr.tape.trans hB.tape
        · exact hgr.output.trans hB.output
        · have := hgr.size; have := hB.size; simp only [World.setCell, Array.size_modify]; omega
        · rw [hset k (by omega), hgr.block k (by omega) hne, hB.block k hk]
        · rcases hvne g hg with h1 | h1
          · exact .inl h1
          · exact .inr (by have := hB.size; omega)
      rw [hsz] at ho hcp ⊢
      rw [hnt]
      have g0 : decide (0 < m) = true := by simp; omega
      have g1 : decide (cp ≤ sz) = true := by simp; omega
      have hmI : (m : Int) ≤ (cs.size : Int) := by omega
      have HB3D : Hid (∀ a b c, Below w.heap.size w (((w.alloc a).alloc b).alloc c).drew ∧ w.heap.size + 3 ≤ (((w.alloc a).alloc b).alloc c).drew.heap.size) := Lib.hid fun a b c => ⟨(HB3.out a b c).drew, by simp⟩
      have hcpI : (cp : Int) ≤ (sz : Int) := by omega
      have hmp : (0 : Int) < (m : Int) := by omega
      clear h hD hnt hsz hn HS hcp
      go_enter Tryz.func40, Tryz.ntmps40
      go_wp2_with fail
      go_region_with (go_at_call 56; ((with_reducible refine (CW.out _ (HB3D.out _ _ _).1 (HB3D.out _ _ _).2).mono ?_); rintro e W2 ⟨A', l', k', rfl, hkeep, HF⟩; obtain ⟨q0, q1, q2, q3⟩ := two2 ((hkeep (w.heap.size + 1 + 1) (by omega) (by simp)).trans (three_new w _ _ _ _ _)); clear hkeep))
      all_goals
        go_wp2_with fail
        refine bodyPost_ret (v := .agg #[.bool true, .slice A' l' k']) (by simp [results, Tryz.results40, go_sem, q0, q1]) rfl HF.out
    · have hD : behindD ⟨cn, 0, cp, cs⟩ p o = o := by unfold behindD; rw [if_pos rfl, if_neg hn]
      rw [hD]
      rw [hnt, hsz] at HS ⊢
      rw [hsz] at hn ho
      clear h hD hnt hsz
      by_cases h1 : 0 < min p (cs.size : Int)
      · have h2 : ¬ cp ≤ sz := fun e => hn ⟨h1, e⟩
        obtain ⟨m, hm⟩ : ∃ m, min p (cs.size : Int) = m := ⟨_, rfl⟩
        have g2 : decide (cp ≤ sz) = false := by simp; omega
        have g0 : decide (0 < m) = true := by simp; omega
        clear hn
        go_enter Tryz.func40, Tryz.ntmps40
        go_wp2_with fail
        refine bodyPost_ret (v := .agg #[.bool nt, .slice A sz cap]) (by simp [results, Tryz.results40, go_sem]) rfl (HS.out _ (HB3.out _ _ _))
      · obtain ⟨m, hm⟩ : ∃ m, min p (cs.size : Int) = m := ⟨_, rfl⟩
        have g0 : decide (0 < m) = false := by simp; omega
        clear hn
        go_enter Tryz.func40, Tryz.ntmps40
        go_wp2_with fail
        refine bodyPost_ret (v := .agg #[.bool nt, .slice A sz cap]) (by simp [results, Tryz.results40, go_sem]) rfl (HS.out _ (HB3.out _ _ _))
  · by_cases hn : 0 < p ∧ cp < szO o
    · have hD : behindD ⟨cn, 1, cp, cs⟩ p o = some ((o.getD []).take cp) := by
        unfold behindD; rw [if_neg (by simp), if_pos rfl, if_pos hn]
      rw [hD]
      have hcp : cp ≤ szO o := Nat.le_of_lt hn.2
      have hA : A = none → cap = 0 := fun e => by
        rcases h.2 with ⟨h1, _⟩ | ⟨g, cap', cur, h1, _⟩
        · simp only [Value.slice.injEq] at h1; omega
        · simp only [Value.slice.injEq] at h1; rw [e] at h1; cases h1.1
      have hsp : ∀ a, A = some a → a.spot = none := fun a e => by
        rcases h.2 with ⟨h1, _⟩ | ⟨g, cap', cur, h1, _⟩
        · simp only [Value.slice.injEq] at h1; rw [e] at h1; cases h1.1
        · simp only [Value.slice.injEq] at h1; rw [e] at h1
          obtain rfl := Option.some.inj h1.1
          rfl
      have hcapl : szO o ≤ cap ∧ cap ≤ 9223372036854775807 := by
        rcases h.2 with ⟨h1, h2⟩ | ⟨g, cap', cur, h1, _, _, h2, _, h3, _⟩
        · simp only [Value.slice.injEq] at h1; omega
        · simp only [Value.slice.injEq] at h1
          rw [szO_getD] at h2
          simp only [maxLen] at h3
          omega
      have CW : Hid (∀ W0, Below w.heap.size w W0 → w.heap.size + 3 ≤ W0.heap.size → Calls Tryz.prog 66 #[.agg #[.bool nt, .slice A sz cap], .int .i64 (cp : Nat)] W0 fun e W2 => e = .returned (.agg #[.bool true, .slice A cp cp]) ∧
          (∀ j, w.heap.size ≤ j → j < W0.heap.size → W2.heap[j]? = W0.heap[j]?) ∧
          Hid (Behind w base (.slice A sz cap) (some ((o.getD []).take cp)) (.returned (.agg #[.bool true, .slice A cp cp])) ((W2.setCell ⟨w.heap.size + 1 + 1, 0, none⟩ (.bool true)).setCell ⟨w.heap.size + 1 + 1, 1, none⟩ (.slice A cp cp)))) := Lib.hid fun W0 hB hW0 => by
        rw [← hsz]
        have hown := h.own
        refine (cut_calls nt A (szO o) cap cp hA hsp (by omega) hcapl.2 W0).mono ?_
        rintro e W2 ⟨rfl, hB2⟩
        have hBW := hB.trans (hB2.mono hB.size)
        have hcut := h.cut cp (by rw [szO_getD]; exact hcp) (fun e => by have := hA e; omega)
        have hset : ∀ j, j ≠ w.heap.size + 1 + 1 → ((W2.setCell ⟨w.heap.size + 1 + 1, 0, none⟩ (.bool true)).setCell ⟨w.heap.size + 1 + 1, 1, none⟩ (.slice A cp cp)).heap[j]? = W2.heap[j]? := fun j hj => by
          rw [Below.heap_setCell _ _ _ _ hj, Below.heap_setCell _ _ _ _ hj]
        refine ⟨rfl, fun j _ h2 => hB2.block j h2, Lib.hid ⟨_, rfl, ?_, ⟨hBW.os, hBW.tape, hBW.output, ?_, fun k hk _ => ?_⟩, fun g hg => .inl ((own_any A _ _ _ _).trans hg)⟩⟩
        · exact (hcut.below hBW).keep fun g hg => hset g (by have := (hcut.own g hg).2; omega)
        · have := hBW.size; simp only [World.setCell, Array.size_modify]; omega
        · rw [hset k (by omega), hBW.block k hk]
      have h2 : cp < szO o := hn.2
      have h1 : 0 < p := hn.1
      rw [hsz] at ho h2 ⊢
      rw [hnt]
      have g1 : decide (cp < sz) = true := by simp; omega
      have h2I : (cp : Int) < (sz : Int) := by omega
      clear h hD hnt hsz hn HS hcp hA hsp hcapl
      go_enter Tryz.func40, Tryz.ntmps40
      go_wp2_with fail
      refine (CW.out _ (HB3.out _ _ _) (by simp)).mono ?_
      rintro e W2 ⟨rfl, hkeep, HF⟩
      obtain ⟨q0, q1, q2, q3⟩ := two2 ((hkeep (w.heap.size + 1 + 1) (by omega) (by simp)).trans (three_new w _ _ _ _ _))
      clear hkeep CW
      go_wp2_with fail
      refine bodyPost_ret (v := .agg #[.bool true, .slice A cp cp]) (by simp [results, Tryz.results40, go_sem, q0, q1]) rfl HF.out
    · have hD : behindD ⟨cn, 1, cp, cs⟩ p o = o := by unfold behindD; rw [if_neg (by simp), if_pos rfl, if_neg hn]
      rw [hD]
      rw [hnt, hsz] at HS ⊢
      rw [hsz] at hn ho
      clear h hD hnt hsz
      by_cases h1 : 0 < p
      · have h2 : ¬ cp < sz := fun e => hn ⟨h1, e⟩
        have g2 : decide (cp < sz) = false := by simp; omega
        clear hn
        go_enter Tryz.func40, Tryz.ntmps40
        go_wp2_with fail
        refine bodyPost_ret (v := .agg #[.bool nt, .slice A sz cap]) (by simp [results, Tryz.results40, go_sem]) rfl (HS.out _ (HB3.out _ _ _))
      · clear hn
        go_enter Tryz.func40, Tryz.ntmps40
        go_wp2_with fail
        refine bodyPost_ret (v := .agg #[.bool nt, .slice A sz cap]) (by simp [results, Tryz.results40, go_sem]) rfl (HS.out _ (HB3.out _ _ _))
  · by_cases hn : 0 < p
    · have hD : behindD ⟨cn, 2, cp, cs⟩ p o = none := by
        unfold behindD; rw [if_neg (by simp), if_neg (by simp), if_pos hn]
      rw [hD]
      have HN : Hid (∀ W0, Below w.heap.size w W0 → Behind w base (.slice A sz cap) none (.returned (.agg #[.bool false, .slice none 0 0])) W0) := Lib.hid fun W0 hB => ⟨_, rfl, Buf.nil _ _ _, ⟨hB.os, hB.tape, hB.output, hB.size, fun k hk _ => hB.block k hk⟩, fun g hg => by cases hg⟩
      rw [hsz] at ho ⊢
      rw [hnt]
      clear h hD hnt hsz HS
      go_enter Tryz.func40, Tryz.ntmps40
      go_wp2_with fail
      refine bodyPost_ret (v := .agg #[.bool false, .slice none 0 0]) (by simp [results, Tryz.results40, go_sem]) rfl (HN.out _ (HB3.out _ _ _))
    · have hD : behindD ⟨cn, 2, cp, cs⟩ p o = o := by unfold behindD; rw [if_neg (by simp), if_neg (by simp), if_neg hn]
      rw [hD]
      rw [hnt, hsz] at HS ⊢
      rw [hsz] at ho
      clear h hD hnt hsz
      go_enter Tryz.func40, Tryz.ntmps40
      go_wp2_with fail
      refine bodyPost_ret (v := .agg #[.bool nt, .slice A sz cap]) (by simp [results, Tryz.results40, go_sem]) rfl (HS.out _ (HB3.out _ _ _))

end Go.Proofs.YtnhkpemajknfnaaGreatDoor.Disk
