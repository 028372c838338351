/-
  Put together out of texts of one chain: what they hold stands ahead of each.
-/
import Derived.Test.YtmegiilkcidanaaProg
import Derived.Shelf.SortM.Plain
import Derived.Shelf.SortM.SortNone
import Derived.Ground.SlgmProg
import Derived.Test.YtmegiilkcidanaaGDiskCopies08
import Derived.Test.YtmegiilkcidanaaGDiskCopies07
import Derived.Sort.Walk0
import Derived.Test.YtmegiilkcidanaaGDiskCopies15
import Derived.Test.YtmegiilkcidanaaSame
import Derived.Lib.QuietBelow
import Derived.BigQuiet
import Derived.WalkSmall
/-
  Contracts of the shelf at this program: the tables of numbers, and each body as the contract's own. No conditions.
-/
namespace Go.Proofs
open Go.Shelf
def Try.sortStr_ren : Go.Shelf.Ren := ⟨fun | 6 => 54 | 8 => 66 | 9 => 65 | 19 => 78 | 20 => 79 | 21 => 69 | 22 => 70 | 23 => 71 | 24 => 72 | 25 => 73 | 26 => 74 | 27 => 75 | 28 => 76 | 29 => 77 | 36 => 88 | 31 => 89 | 32 => 90 | 37 => 91 | 38 => 92 | 39 => 93 | 41 => 97 | n => n, fun | 27 => 68 | 29 => 9 | 3 => 3 | 32 => 112 | 26 => 68 | 0 => 0 | 44 => 125 | 46 => 127 | 4 => 4 | 36 => 117 | 35 => 116 | 41 => 122 | 5 => 5 | 9 => 9 | 53 => 133 | 57 => 137 | 63 => 141 | 64 => 142 | n => n, fun | n => n⟩
theorem Try.sortStr : Go.Proofs.SlLaysM.n6 Try.prog Try.sortStr_ren := {
  mixed := by kernel_rfl
  f6 := ⟨Try.f54.name, by decide, Try.func54.trans (congrArg some (by kernel_rfl))⟩
  f8 := Try.func66.trans (congrArg some (by kernel_rfl))
  f9 := ⟨Try.f65.name, by decide, Try.func65.trans (congrArg some (by kernel_rfl))⟩
  f19 := Try.func78.trans (congrArg some (by kernel_rfl))
  f20 := Try.func79.trans (congrArg some (by kernel_rfl))
  f21 := ⟨Try.f69.name, by decide, Try.func69.trans (congrArg some (by kernel_rfl))⟩
  f22 := ⟨Try.f70.name, by decide, Try.func70.trans (congrArg some (by kernel_rfl))⟩
  f23 := ⟨Try.f71.name, by decide, Try.func71.trans (congrArg some (by kernel_rfl))⟩
  f24 := ⟨Try.f72.name, by decide, Try.func72.trans (congrArg some (by kernel_rfl))⟩
  f25 := ⟨Try.f73.name, by decide, Try.func73.trans (congrArg some (by kernel_rfl))⟩
  f26 := ⟨Try.f74.name, by decide, Try.func74.trans (congrArg some (by kernel_rfl))⟩
  f27 := ⟨Try.f75.name, by decide, Try.func75.trans (congrArg some (by kernel_rfl))⟩
  f28 := ⟨Try.f76.name, by decide, Try.func76.trans (congrArg some (by kernel_rfl))⟩
  f29 := ⟨Try.f77.name, by decide, Try.func77.trans (congrArg some (by kernel_rfl))⟩
  f31 := Try.func89.trans (congrArg some (by kernel_rfl))
  f32 := Try.func90.trans (congrArg some (by kernel_rfl))
  f36 := ⟨Try.f88.name, by decide, Try.func88.trans (congrArg some (by kernel_rfl))⟩
  f37 := ⟨Try.f91.name, by decide, Try.func91.trans (congrArg some (by kernel_rfl))⟩
  f38 := ⟨Try.f92.name, by decide, Try.func92.trans (congrArg some (by kernel_rfl))⟩
  f39 := ⟨Try.f93.name, by decide, Try.func93.trans (congrArg some (by kernel_rfl))⟩
  f41 := ⟨Try.f97.name, by decide, Try.func97.trans (congrArg some (by kernel_rfl))⟩
  t0 := Try.underlying0
  a0 := Try.isAgg0
  z0 := Try.sizeOf0
  v0 := Try.zeroValue0
  t3 := Try.underlying3
  a3 := Try.isAgg3
  z3 := Try.sizeOf3
  v3 := Try.zeroValue3
  t4 := Try.underlying4
  a4 := Try.isAgg4
  z4 := Try.sizeOf4
  v4 := Try.zeroValue4
  t5 := Try.underlying5
  a5 := Try.isAgg5
  z5 := Try.sizeOf5
  v5 := Try.zeroValue5
  t9 := Try.underlying9
  a9 := Try.isAgg9
  z9 := Try.sizeOf9
  v9 := Try.zeroValue9
  t26 := Try.underlying68
  a26 := Try.isAgg68
  z26 := Try.sizeOf68
  v26 := Try.zeroValue68
  t27 := Try.underlying68
  a27 := Try.isAgg68
  z27 := Try.sizeOf68
  v27 := Try.zeroValue68
  t29 := Try.underlying9
  a29 := Try.isAgg9
  z29 := Try.sizeOf9
  v29 := Try.zeroValue9
  t32 := Try.underlying112
  a32 := Try.isAgg112
  z32 := Try.sizeOf112
  v32 := Try.zeroValue112
  t35 := Try.underlying116
  a35 := Try.isAgg116
  z35 := Try.sizeOf116
  v35 := Try.zeroValue116
  t36 := Try.underlying117
  a36 := Try.isAgg117
  z36 := Try.sizeOf117
  v36 := Try.zeroValue117
  t41 := Try.underlying122
  a41 := Try.isAgg122
  z41 := Try.sizeOf122
  v41 := Try.zeroValue122
  t44 := Try.underlying125
  a44 := Try.isAgg125
  z44 := Try.sizeOf125
  v44 := Try.zeroValue125
  t46 := Try.underlying127
  a46 := Try.isAgg127
  z46 := Try.sizeOf127
  v46 := Try.zeroValue127
  t53 := Try.underlying133
  a53 := Try.isAgg133
  z53 := Try.sizeOf133
  v53 := Try.zeroValue133
  t57 := Try.underlying137
  a57 := Try.isAgg137
  z57 := Try.sizeOf137
  v57 := Try.zeroValue137
  t63 := Try.underlying141
  a63 := Try.isAgg141
  z63 := Try.sizeOf141
  v63 := Try.zeroValue141
  t64 := Try.underlying142
  a64 := Try.isAgg142
  z64 := Try.sizeOf142
  v64 := Try.zeroValue142 }
end Go.Proofs

/-
  Contract of the disk's Names: the files that are there, in the order of their names.
-/
namespace Go.Proofs.Ytmegiilkcidanaa.Disk
open Go Go.RowKit Go.Lib Go.Sort Go.Proofs.Ytmegiilkcidanaa.Law

def txt (s : ByteArray) : Value := .string s
/-- A row of texts. -/
def OwnS (W : World) (base : Nat) (v : Value) (l : List ByteArray) : Prop := W.ownsRow base 9 1 v l.length (l.map txt)
theorem OwnS.nil (W : World) (base : Nat) : OwnS W base (.slice none 0 0) [] := ⟨rfl, .inl ⟨rfl, rfl⟩⟩
theorem OwnS.own {W : World} {base : Nat} {v : Value} {l : List ByteArray} (h : OwnS W base v l) : ∀ g, v.ownBlock = some g → base ≤ g ∧ g < W.heap.size := fun g hg => World.ownsRow.lt h g hg
theorem OwnS.form {W : World} {base : Nat} {v : Value} {l : List ByteArray} (h : OwnS W base v l) : ∃ A cap, v = .slice A l.length cap := by
  rcases h.2 with ⟨rfl, h0⟩ | ⟨g, cap, cur, rfl, _⟩
  · exact ⟨none, 0, by rw [h0]⟩
  · exact ⟨_, _, rfl⟩
theorem OwnS.keep {W W' : World} {base : Nat} {v : Value} {l : List ByteArray} (h : OwnS W base v l) (hb : ∀ g, v.ownBlock = some g → W'.heap[g]? = W.heap[g]?) : OwnS W' base v l := by
  refine ⟨h.1, ?_⟩
  rcases h.2 with h0 | ⟨g, cap, cur, rfl, h1, h2, h3⟩
  · exact .inl h0
  · exact .inr ⟨g, cap, cur, rfl, h1, (hb g rfl).trans h2, h3⟩
theorem OwnS.below {W W' : World} {base : Nat} {v : Value} {l : List ByteArray} (h : OwnS W base v l) (hB : Below W.heap.size W W') : OwnS W' base v l := h.keep fun g hg => hB.block g (h.own g hg).2
theorem OwnS.cell {W : World} {base n cap : Nat} {A : Option Addr} {l : List ByteArray} (h : OwnS W base (.slice A n cap) l) {i : Nat} (hi : i < l.length) : n ≤ cap ∧ ∃ g, A = some ⟨g, 0, none⟩ ∧ g < W.heap.size ∧ W.cell? ⟨g, i, none⟩ = some (.string l[i]) := by
  rcases h.2 with ⟨_, h0⟩ | ⟨g, cap', cur, hv, _, hg, hn, hcm, hcs, ht⟩
  · omega
  · simp only [Value.slice.injEq] at hv
    obtain ⟨rfl, rfl, rfl⟩ := hv
    refine ⟨hn, g, rfl, (Array.getElem?_eq_some_iff.1 hg).1, ?_⟩
    have h1 : (cur.toList.take (l.length * 1))[i]? = (l.map txt)[i]? := by rw [ht]
    rw [List.getElem?_take_of_lt (by omega), Array.getElem?_toList, List.getElem?_map, List.getElem?_eq_getElem hi] at h1
    simp only [World.cell?, hg]
    exact h1

theorem info_str : (Try.prog.info? 9).map (fun i => (i.zero, i.size, i.bytes)) = some (some (.string ⟨#[]⟩), 1, 16) := by kernel_rfl

theorem OwnS.append {W : World} {base : Nat} {v : Value} {l : List ByteArray} (h : OwnS W base v l) (hbase : base ≤ W.heap.size) (s : ByteArray) (ty : TypeId) (b : Nat) {tg : TypeId}
    (hb : W.heap[b]? = some (.cells #[.string s] tg (0, 0))) (hroom : (l.length + 1) * 16 ≤ 140737488355328) :
    ∃ A' c' W', (Builtin.append_ #[68, 68] ty #[v, .slice (some ⟨b, 0, none⟩) 1 1]).run Try.prog W = .ok (.slice A' (l.length + 1) c') W' ∧ OwnS W' base (.slice A' (l.length + 1) c') (l ++ [s]) ∧ W.grownBy W' v.ownBlock ∧ ((Value.slice A' (l.length + 1) c').ownBlock = v.ownBlock ∨ (Value.slice A' (l.length + 1) c').ownBlock = some W.heap.size) := by
  obtain ⟨i0, hi, hz0, hz1, hz2⟩ := info_parts info_str
  obtain ⟨v', W', hrun, h2, h3, _, h5⟩ := run_append_own_at (P := Try.prog) W base 68 ty 9 i0 _ 1 16 Try.underlying68 hi hz0 hz1 hz2 rfl (by decide) v l.length (l.map txt) h ⟨b, 0, none⟩ 1 1 [txt s] rfl
    (fun j u hu => by
      rw [Addr.add_lit]
      match j, hu with
      | 0, hu => simp [txt] at hu; subst hu; simp [World.cell?, hb]
      | j + 1, hu => simp at hu) (by simp [txt, Value.oneCell']) (by simp only [maxLen]; omega) hroom hbase
  have h2' : OwnS W' base v' (l ++ [s]) := by
    show W'.ownsRow _ _ _ _ _ _
    rw [List.length_append, List.map_append]
    exact h2
  obtain ⟨A', c', rfl⟩ := h2'.form
  rw [List.length_append] at hrun h2' h5
  exact ⟨A', c', W', hrun, h2', h3, h5⟩

/-- The same texts in order: what the library's sort makes of them. -/
def sortN (l : List ByteArray) : List ByteArray := ((l.map fun s => s.data.toList).mergeSort fun x y => decide (x ≤ y)).map fun b => ⟨b.toArray⟩
theorem back_bytes (l : List ByteArray) : (l.map fun s => s.data.toList).map (fun b => (⟨b.toArray⟩ : ByteArray)) = l := by
  rw [List.map_map]
  conv => rhs; rw [← List.map_id l]
  exact List.map_congr_left fun s _ => rfl
theorem sortN_perm (l : List ByteArray) : (sortN l).Perm l := by
  have h := (List.mergeSort_perm (l.map fun s => s.data.toList) fun x y => decide (x ≤ y)).map fun b => (⟨b.toArray⟩ : ByteArray)
  rw [back_bytes] at h
  exact h
theorem le_bl {x y : List UInt8} : decide (x ≤ y) = true ↔ Op.bytesLess y x = false := by
  rw [decide_eq_true_iff, bytesLess_eq, decide_eq_false_iff_not, List.not_lt]
theorem sortN_sorted {l : List ByteArray} (hn : l.Nodup) : (sortN l).Pairwise fun a b => ltN a b = true := by
  have h1 : ((l.map fun s => s.data.toList).mergeSort fun x y => decide (x ≤ y)).Pairwise fun a b => decide (a ≤ b) = true := by
    refine List.pairwise_mergeSort (le := fun x y => decide (x ≤ y)) ?_ ?_ _
    · intro a b c h1 h2
      rw [le_bl] at *
      cases h : Op.bytesLess c a with
      | false => rfl
      | true =>
        exfalso
        by_cases hcb : c = b
        · subst hcb; rw [h1] at h; cases h
        · have := bl_trans b c a (bl_total c b h2 hcb) h
          rw [h1] at this; cases this
    · intro a b
      rw [Bool.or_eq_true, le_bl, le_bl]
      cases h : Op.bytesLess b a with
      | false => exact .inl rfl
      | true =>
        right
        cases h2 : Op.bytesLess a b with
        | false => rfl
        | true =>
          have := bl_trans a b a h2 h
          rw [bytesLess_irr] at this; cases this
  have hnd : (sortN l).Nodup := (sortN_perm l).nodup_iff.2 hn
  unfold sortN at hnd ⊢
  rw [List.Nodup, List.pairwise_map] at hnd
  rw [List.pairwise_map]
  refine (h1.and hnd).imp ?_
  rintro a b ⟨h2, h3⟩
  rw [le_bl] at h2
  show Op.bytesLess (ByteArray.toList _) (ByteArray.toList _) = true
  rw [Lib.toList_data, Lib.toList_data]
  refine bl_total b a h2 fun e => h3 (by rw [e])

theorem putCells_take (cur : Array Value) (d : Array (List UInt8)) (h : d.size ≤ cur.size) : (putCells encStr 0 d cur).toList.take d.size = d.toList.map encStr := by
  apply List.ext_getElem?
  intro j
  by_cases hj : j < d.size
  · rw [List.getElem?_take_of_lt hj, Array.getElem?_toList]
    simp [putCells, hj, show j < cur.size by omega]
  · rw [List.getElem?_take_eq_none (by omega), List.getElem?_eq_none (by simp; omega)]

theorem OwnS.sort {W : World} {base : Nat} {v : Value} {l : List ByteArray} (h : OwnS W base v l) (hlen : l.length ≤ 4294967296) :
    Calls Try.prog 54 #[v] W fun e W' => e = .returned (.tuple #[]) ∧ OwnS W' base v (sortN l) ∧ W.grownBy W' v.ownBlock := by
  by_cases h0 : l.length = 0
  · obtain ⟨A, cap, rfl⟩ := h.form
    have hl : l = [] := List.eq_nil_of_length_eq_zero h0
    subst hl
    have hcon := AnyM.slices_Sort_string_none Try.sortStr A cap W
    change Calls Try.prog 54 _ _ _ at hcon
    refine hcon.mono ?_
    rintro e W' ⟨rfl, rfl⟩
    have hs0 : sortN [] = [] := by simp [sortN]
    exact ⟨rfl, by rw [hs0]; exact h, rfl, rfl, rfl, Nat.le_refl _, fun _ _ _ => rfl⟩
  · rcases h.2 with ⟨_, h1⟩ | ⟨g, cap, cur, rfl, hbg, hg, hn, hcm, hcs, ht⟩
    · exact absurd h1 h0
    · have hgl := (Array.getElem?_eq_some_iff.1 hg).1
      have hH : Holds encStr W g 0 (l.map fun s => s.data.toList).toArray := by
        intro t ht'
        have ht2 : t < l.length := by simpa using ht'
        refine ⟨?_, by simp [World.frozen?, hg]⟩
        obtain ⟨_, g', hA, _, hc⟩ := h.cell ht2
        simp only [Option.some.injEq, Addr.mk.injEq, and_true] at hA
        subst hA
        rw [Nat.zero_add, hc]
        simp [ht2]
      have hcon := AnyM.slices_Sort_string Try.sortStr g 0 cap (l.map fun s => s.data.toList) W hH hgl (by simp; omega)
      change Calls Try.prog 54 _ _ _ at hcon
      simp only [List.length_map] at hcon
      refine hcon.mono ?_
      rintro e W' ⟨rfl, n, os, rfl⟩
      obtain ⟨ss, hss⟩ : ∃ ss, ((l.map fun s => s.data.toList).mergeSort fun x y => decide (x ≤ y)) = ss := ⟨_, rfl⟩
      have hml : ss.length = l.length := by rw [← hss, List.length_mergeSort, List.length_map]
      have hsn : sortN l = ss.map fun b => ⟨b.toArray⟩ := by unfold sortN; rw [hss]
      rw [hss, hsn]
      refine ⟨rfl, ⟨by simp, .inr ⟨g, cap, putCells encStr 0 ss.toArray cur, by simp [hml], hbg, ?_, by simp [hml]; omega, hcm, by simp [putCells, hcs], ?_⟩⟩, rfl, rfl, rfl, ?_, fun k hk hne => ?_⟩
      · rw [heap_grow_old _ _ (by simp [putRow, mapBlock, Sort.ahead]; exact hgl)]
        simp [putRow, mapBlock, Sort.ahead, Array.getElem?_modify, hg, onCells]
      · have hFs : ss.toArray.size = (ss.map fun b => (⟨b.toArray⟩ : ByteArray)).length * 1 := by simp
        rw [← hFs, putCells_take _ _ (by simp; omega)]
        simp [txt, Function.comp_def]
      · simp [putRow, mapBlock, Sort.ahead, grow]
      · rw [heap_grow_old _ _ (by simp [putRow, mapBlock, Sort.ahead]; exact hk)]
        have : g ≠ k := fun e => hne (by simp [Value.ownBlock, e])
        simp [putRow, mapBlock, Sort.ahead, Array.getElem?_modify, this]

/-- The names of the files that are there, so far. -/
structure There (D : DS) (rest acc : List ByteArray) : Prop where
  accN : acc.Nodup
  restN : rest.Nodup
  ins : ∀ s ∈ acc, s ∈ D.names ∧ D.now s ≠ none ∧ s ∉ rest
  sub : ∀ s ∈ rest, s ∈ D.names
  all : ∀ s ∈ D.names, D.now s ≠ none → s ∈ acc ∨ s ∈ rest
  len : acc.length + rest.length ≤ D.names.length
theorem There.start {D : DS} (hw : WF D) : There D D.names [] := ⟨List.nodup_nil, hw.nodup, fun s h => by simp at h, fun _ h => h, fun s hs _ => .inr hs, by simp⟩
theorem There.skip {D : DS} {rest acc : List ByteArray} {s : ByteArray} (h : There D rest acc) (hs : s ∈ rest) (hn : D.now s = none) : There D (rest.erase s) acc := by
  refine ⟨h.accN, h.restN.erase _, fun x hx => ⟨(h.ins x hx).1, (h.ins x hx).2.1, fun e => (h.ins x hx).2.2 (List.mem_of_mem_erase e)⟩, fun x hx => h.sub x (List.mem_of_mem_erase hx), fun x hx hxn => ?_, ?_⟩
  · rcases h.all x hx hxn with h1 | h1
    · exact .inl h1
    · exact .inr ((List.mem_erase_of_ne (fun e => hxn (by rw [e]; exact hn))).2 h1)
  · have := h.len
    have h2 := List.length_erase_of_mem hs
    omega
theorem There.put {D : DS} {rest acc : List ByteArray} {s : ByteArray} (h : There D rest acc) (hs : s ∈ rest) (hn : D.now s ≠ none) : There D (rest.erase s) (acc ++ [s]) := by
  refine ⟨List.nodup_append.2 ⟨h.accN, by simp, fun a ha b hb => ?_⟩, h.restN.erase _, fun x hx => ?_, fun x hx => h.sub x (List.mem_of_mem_erase hx), fun x hx hxn => ?_, ?_⟩
  · simp only [List.mem_singleton] at hb
    subst hb
    rintro rfl
    exact (h.ins a ha).2.2 hs
  · rcases List.mem_append.1 hx with hx | hx
    · exact ⟨(h.ins x hx).1, (h.ins x hx).2.1, fun e => (h.ins x hx).2.2 (List.mem_of_mem_erase e)⟩
    · simp only [List.mem_singleton] at hx
      subst hx
      exact ⟨h.sub x hs, hn, fun e => (h.restN.mem_erase_iff.1 e).1 rfl⟩
  · by_cases hxs : x = s
    · exact .inl (by simp [hxs])
    · rcases h.all x hx hxn with h1 | h1
      · exact .inl (List.mem_append_left _ h1)
      · exact .inr ((List.mem_erase_of_ne hxs).2 h1)
  · have := h.len
    have h2 := List.length_erase_of_mem hs
    have h3 := List.length_pos_of_mem hs
    rw [List.length_append, List.length_singleton]
    omega

/-- What Names leaves. -/
def NamesO (w : World) (D : DS) (e : Ending) (W : World) : Prop := ∃ A n c l, e = .returned (.slice A n c) ∧ l.length = n ∧ OwnS W w.heap.size (.slice A n c) l ∧ (l.Pairwise fun a b => ltN a b = true) ∧ (∀ s, s ∈ l ↔ D.now s ≠ none) ∧ Below w.heap.size w W

theorem names_done {w W W' : World} {D : DS} {acc : List ByteArray} {A : Option Addr} {n c : Nat} (hw : WF D) (hT : There D [] acc) (hn : acc.length = n) (hO : OwnS W' (w.heap.size + 1) (.slice A n c) (sortN acc)) (hB : Below w.heap.size w W) (hS : OwnS W (w.heap.size + 1) (.slice A n c) acc) (hg : W.grownBy W' (Value.slice A n c).ownBlock) : NamesO w D (.returned (.slice A n c)) W' := by
  refine ⟨A, n, c, sortN acc, rfl, (sortN_perm acc).length_eq.trans hn, ⟨hO.1, ?_⟩, sortN_sorted hT.accN, fun s => ?_, hB.grown hg hB.size fun k hk => ?_⟩
  · rcases hO.2 with h0 | ⟨g, cap, cur, h0, h1, h2⟩
    · exact .inl h0
    · exact .inr ⟨g, cap, cur, h0, by omega, h2⟩
  · rw [(sortN_perm acc).mem_iff]
    constructor
    · exact fun hs => (hT.ins s hs).2.1
    · intro hs
      rcases hT.all s ((hw.names s).2 (.inl hs)) hs with h | h
      · exact h
      · simp at h
  · have := (hS.own k hk).1
    omega

set_option maxRecDepth 100000 in
set_option maxHeartbeats 2000000 in
theorem names_calls (w : World) (O : Owner) (db : Nat) (D : DS) (h : DiskAt w O db D) (hw : WF D) (hmade : D.made ≤ 4294967296) :
    Calls Try.prog 35 #[.pointer (some ⟨db, 0, none⟩)] w (NamesO w D) := by
  obtain ⟨mb, F, hc, hf⟩ := id h
  obtain ⟨n, hn, hm⟩ := hc.map
  have hdb := hc.disk.lt
  have hmbl := hm.lt
  obtain ⟨w', cnt, hrun, hR, hG, hS⟩ := hm.rng Try.underlying9 Try.underlying62 D.names hw.nodup (fun s hs => hw.short hs) hc.dom
  obtain ⟨⟨d0, _⟩, _⟩ := hc.disk.cells
  have HF : Hid (∀ s ∈ D.names, ∀ g, F s = some g → g < w.heap.size ∧ w.cell? ⟨g, 0, none⟩ = some (.bool (D.now s).isSome)) := Lib.hid fun s hs g hg => by
    obtain ⟨v, hv⟩ := DiskAt.files hf hs hg
    exact ⟨hv.1.lt, hv.1.cells.1.1⟩
  have HRUN := Lib.hid hrun
  have HR := Lib.hid hR
  have hB0 : Below w.heap.size w w' := ⟨hG.os, hG.tape, hG.output, hG.size, fun k hk => hG.block k hk (by simp)⟩
  have HB0 : Hid (Below w.heap.size w w' ∧ w.heap.size + 1 ≤ w'.heap.size) := Lib.hid ⟨hB0, by omega⟩
  have HT0 := Lib.hid (There.start hw)
  have HWF := Lib.hid hw
  have hcnt := hw.count
  have HCNT := Lib.hid hcnt
  clear h hw hc hf hm hrun hR hG hB0 hcnt hS
  go_enter Try.func35, Try.ntmps35
  go_wp2_with (first | (at_range; refine wpList_range_ran rfl _ _ rfl rfl HRUN.out ?_))
  go_frame
  go_loopw [3] (fun v wr => ∃ (acc rest : List ByteArray) (c : Nat) (A2 : Option Addr) (n2 c2 : Nat), v = .slice A2 n2 c2 ∧ Hid (There D rest acc ∧ acc.length = n2 ∧ OwnS wr (w.heap.size + 1) (.slice A2 n2 c2) acc) ∧ Rng Try.prog 9 wr mb w.heap.size n F rest c ∧ Hid (Below w.heap.size w wr ∧ w.heap.size + 1 ≤ wr.heap.size)) (fun _ wr => wr.rangeLeft mb w.heap.size)
  case atStart => exact ⟨[], D.names, cnt, none, 0, 0, rfl, Lib.hid ⟨HT0.out, rfl, OwnS.nil _ _⟩, HR.out, HB0⟩
  case round =>
    obtain ⟨acc, rest, c, A2, n2, c2, rfl, HO, hrng, HB⟩ := hrel
    have hleft := hrng.left
    rcases hrng.next Try.underlying9 0 with ⟨rfl, hnx⟩ | ⟨s, g, w1, c1, hs, hF, hnx, hrng1, hlt, hg1, hs1, hen⟩
    · have HNX := Lib.hid hnx
      obtain ⟨hT, hnl, hO⟩ := HO.out
      have hsort := hO.sort (by have := hT.len; have := HCNT.out; omega)
      have CS : Hid (Calls Try.prog 54 #[.slice A2 n2 c2] wr fun e W' => e = .returned (.tuple #[]) ∧ Hid (NamesO w D (.returned (.slice A2 n2 c2)) W')) := Lib.hid (hsort.mono fun e W' hp => ⟨hp.1, Lib.hid (names_done HWF.out hT hnl hp.2.1 HB.out.1 hO hp.2.2)⟩)
      clear hnx hrng hleft HO hT hnl hO hsort HB
      go_wp2_with (first | (at_next; refine wpList_next_ran rfl _ _ rfl rfl HNX.out ?_) | (go_at_call 54; refine CS.out.mono ?_; rintro e W' ⟨rfl, HF2⟩))
      go_ret
      exact HF2.out
    · have HNX := Lib.hid hnx
      have HEN := Lib.hid hen
      obtain ⟨hT, hnl, hO⟩ := HO.out
      obtain ⟨hgl, hcell⟩ := HF.out s (hT.sub s hs) g hF
      have hB1 : Below w.heap.size w w1 := HB.out.1.grown hg1 HB.out.1.size (fun k e => by cases e; exact Nat.le_refl _)
      have hcell1 : w1.cell? ⟨g, 0, none⟩ = some (.bool (D.now s).isSome) := (hB1.cell (p := ⟨g, 0, none⟩) hgl).trans hcell
      have hO1 : OwnS w1 (w.heap.size + 1) (.slice A2 n2 c2) acc := hO.keep fun k hk => hg1.block k (hO.own k hk).2 (fun e => by
        have := (hO.own k hk).1
        cases e; omega)
      have hs2 : w.heap.size + 1 ≤ w1.heap.size := by rw [hs1]; exact HB.out.2
      have hl1 := hrng1.left
      have hlen := hT.len
      have hcnt := HCNT.out
      by_cases hnow : D.now s = none
      · have hfb : (D.now s).isSome = false := by rw [hnow]; rfl
        rw [hfb] at hcell1
        have HO2 : Hid (There D (rest.erase s) acc ∧ acc.length = n2 ∧ OwnS w1 (w.heap.size + 1) (.slice A2 n2 c2) acc) := Lib.hid ⟨hT.skip hs hnow, hnl, hO1⟩
        have HB1 := Lib.hid (And.intro hB1 hs2)
        have HR1 := Lib.hid hrng1
        clear hnx hen hrng hrng1 hcell hB1 hg1 hT hnl hO hO1 HO HB hfb hnow
        go_wp2_with (first | (at_next; refine wpList_next_ran rfl _ _ rfl rfl HNX.out ?_) | (refine wpList_entry_ran (o := ⟨some 15, _, _, _, _, _⟩) rfl _ rfl rfl HEN.out ?_))
        go_roundw
        case rel => exact ⟨acc, rest.erase s, c1, A2, n2, c2, rfl, HO2, HR1.out, HB1⟩
        case measure => rw [hleft, hl1]; exact hlt
      · have hfb : (D.now s).isSome = true := by
          cases hd : D.now s with
          | none => exact absurd hd hnow
          | some _ => rfl
        rw [hfb] at hcell1
        have hBa : Below w1.heap.size w1 (w1.alloc (.cells #[.string s] 9)) := (Below.refl _ _).alloc (Nat.le_refl _) _
        obtain ⟨A3, c3, w3, R3, O3, G3, own3⟩ := (hO1.below hBa).append (by have := hBa.size; omega) s 68 w1.heap.size (tg := 9) (by simp only [World.alloc, Array.getElem?_push_size]) (by omega)
        rw [hnl] at R3 O3
        rw [hs1] at R3
        have hr3 : Rng Try.prog 9 w3 mb w.heap.size n F (rest.erase s) c1 := by
          refine ((hrng1.at (hBa.block mb (by omega)) (hBa.block _ (by omega))).kept G3 (fun e => ?_) (fun e => ?_))
          · have := ((hO1.below hBa).own mb e.symm).1; omega
          · have := ((hO1.below hBa).own w.heap.size e.symm).1; omega
        have hB3 : Below w.heap.size w w3 := (hB1.trans (hBa.mono hB1.size)).grown G3 (by have := hB1.size; have := hBa.size; omega) fun k hk => by have := ((hO1.below hBa).own k hk).1; omega
        have hl3 := hr3.left
        have HO2 : Hid (There D (rest.erase s) (acc ++ [s]) ∧ (acc ++ [s]).length = n2 + 1 ∧ OwnS w3 (w.heap.size + 1) (.slice A3 (n2 + 1) c3) (acc ++ [s])) := Lib.hid ⟨hT.put hs hnow, by rw [List.length_append, hnl]; rfl, O3⟩
        have HB1 : Hid (Below w.heap.size w w3 ∧ w.heap.size + 1 ≤ w3.heap.size) := Lib.hid ⟨hB3, by have := G3.size; have := hBa.size; omega⟩
        have HR1 := Lib.hid hr3
        have R3' := Lib.hid R3
        clear hnx hen hrng hrng1 hcell hB1 hg1 hT hnl hO hO1 HO HB hfb hnow hBa R3 O3 G3 own3 hr3 hB3
        go_wp2_with (first | (at_next; refine wpList_next_ran rfl _ _ rfl rfl HNX.out ?_) | (refine wpList_entry_ran (o := ⟨some 15, _, _, _, _, _⟩) rfl _ rfl rfl HEN.out ?_) | (at_builtin; refine wpList_append_ran rfl _ _ _ rfl rfl rfl R3'.out ?_))
        go_roundw
        case rel => exact ⟨acc ++ [s], rest.erase s, c1, A3, n2 + 1, c3, rfl, HO2, HR1.out, HB1⟩
        case measure => rw [hleft, hl3]; exact hlt

end Go.Proofs.Ytmegiilkcidanaa.Disk

/-
  The law's `alike`: where the disk and the document's are the same data it answers true, and nothing that lay has turned.
-/
namespace Go.Proofs.Ytmegiilkcidanaa.Disk
open Go Go.RowKit Go.Sort Go.Lib Go.Proofs.Ytmegiilkcidanaa.Law

theorem FilesAt.short {W : World} {base : Nat} {v : Value} {ps : List RF} (h : FilesAt W base v ps) {A : Option Addr} {n c : Nat} (hv : v = .slice A n c) : n = ps.length := by
  obtain ⟨A', c', h1⟩ := h.form
  rw [hv] at h1
  simp only [Value.slice.injEq] at h1
  exact h1.2.1

set_option maxRecDepth 100000 in
set_option maxHeartbeats 4000000 in
theorem alike_calls (W : World) (O : Owner) (db : Nat) (D : DS) (hd : DiskAt W O db D) (hmade : D.made ≤ 100000) {R : Nat → Prop} {base q : Nat} {nv sv cv : Value} {now safe : List RF} {chs : List RC} (hr : RefIn R base q D W nv sv cv now safe chs) (s : ByteArray) (hs : Short s) :
    Calls Try.prog 11 #[.pointer (some ⟨db, 0, none⟩), .pointer (some ⟨q, 0, none⟩), .string s] W fun e W' => e = .returned (.bool true) ∧ Below W.heap.size W W' := by
  have hrel := hr.rel
  have hnl := hrel.nowLen
  have hsl := hrel.safeLen
  have hcl := hrel.chLen
  have hwf := hrel.wf
  have hcm := hwf.len
  have hul := hwf.usedLe
  have hused := hrel.used
  have hu60 : D.made * 1073741824 ≤ 100000 * 1073741824 := Nat.mul_le_mul_right _ hmade
  obtain ⟨nA, nc, rfl⟩ := hr.now.form
  obtain ⟨sA, sc, rfl⟩ := hr.safe.form
  obtain ⟨cA, cc, rfl⟩ := hr.chs.form
  obtain ⟨N, hN⟩ : ∃ N, now.length = N := ⟨_, rfl⟩
  obtain ⟨M, hM⟩ : ∃ M, safe.length = M := ⟨_, rfl⟩
  obtain ⟨C, hC⟩ : ∃ C, chs.length = C := ⟨_, rfl⟩
  have HRD : Hid (∀ W', Below W.heap.size W W' → RD W' q (D.room : Nat) D.fails (.slice nA N nc) (.slice sA M sc) (.slice cA C cc)) := Lib.hid fun W' hB => by rw [← hN, ← hM, ← hC]; exact hr.rd.below hB
  have HFN : Hid (∀ W', Below W.heap.size W W' → FilesAt W' base (.slice nA N nc) now) := Lib.hid fun W' hB => by rw [← hN]; exact hr.now.below hB
  have HFS : Hid (∀ W', Below W.heap.size W W' → FilesAt W' base (.slice sA M sc) safe) := Lib.hid fun W' hB => by rw [← hM]; exact hr.safe.below hB
  have CN : Hid (Calls Try.prog 35 #[.pointer (some ⟨db, 0, none⟩)] W fun e W1 => ∃ A c, e = .returned (.slice A N c) ∧ Below W.heap.size W W1 ∧ Hid (OwnS W1 W.heap.size (.slice A N c) (now.map fun p => p.1.1))) := Lib.hid (by
    refine (names_calls W O db D hd hwf (by omega)).mono ?_
    rintro e W1 ⟨A, n, c, l, rfl, hn, hO, hS, hm, hB⟩
    have hl : l = now.map fun p => p.1.1 := names_eq hS hrel.nowS fun s => by rw [hrel.now]; exact hm s
    subst hl
    rw [List.length_map, hN] at hn
    subst hn
    exact ⟨A, c, rfl, hB, Lib.hid hO⟩)
  have CU : Hid (∀ W', Below W.heap.size W W' → Calls Try.prog 27 #[.pointer (some ⟨db, 0, none⟩)] W' fun e W2 => e = .returned (.int .i64 (D.used : Nat)) ∧ Below W'.heap.size W' W2) := Lib.hid fun W' hB => (usedD_calls W' O db D (hd.below hB)).mono fun e W2 h => ⟨h.1, by rw [h.2]; exact Below.refl _ _⟩
  have CV : Hid (∀ W', Below W.heap.size W W' → Calls Try.prog 36 #[.pointer (some ⟨q, 0, none⟩)] W' fun e W2 => e = .returned (.int .i64 (D.used : Nat)) ∧ Below W'.heap.size W' W2) := Lib.hid fun W' hB => by
    refine (refUsed_calls q _ _ _ _ _ now (by omega) (by omega) base W' (HRD.out W' hB) (HFN.out W' hB)).mono fun e W2 h => ⟨by rw [h.1, hused], by rw [h.2]; exact Below.refl _ _⟩
  have CP : Hid (∀ W', Below W.heap.size W W' → Calls Try.prog 28 #[.pointer (some ⟨db, 0, none⟩)] W' fun e W2 => e = .returned (.int .i64 (C : Nat)) ∧ Below W'.heap.size W' W2) := Lib.hid fun W' hB => by
    refine (pending_calls W' O db D (hd.below hB) hwf (by omega)).mono fun e W2 h => ⟨by rw [h.1, ← hcl, hC], h.2⟩
  have CR : Hid (∀ W' x, Below W.heap.size W W' → Short x → Calls Try.prog 14 #[.pointer (some ⟨db, 0, none⟩), .string x] W' (ReadD W' (datF now x))) := Lib.hid fun W' x hB hx => by rw [hrel.now]; exact readD_calls W' O db D (hd.below hB) hwf x hx
  have CD : Hid (∀ W' x, Below W.heap.size W W' → Short x → Calls Try.prog 16 #[.pointer (some ⟨db, 0, none⟩), .string x] W' (ReadD W' (datF safe x))) := Lib.hid fun W' x hB hx => by rw [hrel.safe]; exact durableD_calls W' O db D (hd.below hB) hwf x hx
  have HSN : Hid (∀ k (h : k < now.length), Short now[k].1.1 ∧ datF now now[k].1.1 = some now[k].1.2) := Lib.hid fun k h => ⟨hwf.short (hrel.nowIn _ (List.getElem_mem h)), datF_at hrel.nowS (List.getElem_mem h)⟩
  have HSS : Hid (∀ k (h : k < safe.length), Short safe[k].1.1 ∧ datF safe safe[k].1.1 = some safe[k].1.2) := Lib.hid fun k h => ⟨hwf.short (hrel.safeIn _ (List.getElem_mem h)), datF_at hrel.safeS (List.getElem_mem h)⟩
  have CGN : Hid (∀ W', Below W.heap.size W W' → Calls Try.prog 37 #[.slice nA N nc, .string s] W' (GetR W' now s)) := Lib.hid fun W' hB => refGet_calls _ now (by omega) s base W' (HFN.out W' hB)
  have CGS : Hid (∀ W', Below W.heap.size W W' → Calls Try.prog 37 #[.slice sA M sc, .string s] W' (GetR W' safe s)) := Lib.hid fun W' hB => refGet_calls _ safe (by omega) s base W' (HFS.out W' hB)
  have HN := Lib.hid hN
  have HM := Lib.hid hM
  have HSH := Lib.hid hs
  obtain ⟨U, hU⟩ : ∃ U, D.used = U := ⟨_, rfl⟩
  rw [hU] at CU CV
  have hNm : N ≤ 100000 := by omega
  have hMm : M ≤ 100000 := by omega
  clear hr hrel hnl hsl hcl hwf hcm hul hused hu60 hd hN hM hC hU hs
  go_enter Try.func11, Try.ntmps11
  go_wp2_with fail
  refine CN.out.mono ?_
  rintro e W1 ⟨A, c, rfl, hB1, HO⟩
  have hB1s := hB1.size
  have cU2 := fun d os => Calls.regrown_of (d := d) (os := os) (CU.out (grow (redrawn W1 d) os) (hB1.trans ((below_regrown W1 d os).mono hB1s)))
  have cV2 := fun d os => Calls.regrown_of (d := d) (os := os) (CV.out (grow (redrawn W1 d) os) (hB1.trans ((below_regrown W1 d os).mono hB1s)))
  have cP2 := fun d os => Calls.regrown_of (d := d) (os := os) (CP.out (grow (redrawn W1 d) os) (hB1.trans ((below_regrown W1 d os).mono hB1s)))
  obtain ⟨⟨_, _, r2, r3, r4⟩, _⟩ := (HRD.out W1 hB1).cells
  have q2 := fun d os => cell_regrown r2 d os
  have q4 := fun d os => cell_regrown r4 d os
  have CU2 := Lib.hid cU2
  have CV2 := Lib.hid cV2
  have CP2 := Lib.hid cP2
  have HB1 := Lib.hid hB1
  clear cU2 cV2 cP2 r2 r3 r4 hB1 CN CU CV CP
  go_wp2_with fail
  refine wp_region_quiet_below (by kernel_rfl) (by kernel_rfl) ?_
  repeat (go_big_quiet_step ((first | exact CU2.out _ _ | exact CV2.out _ _ | exact CP2.out _ _)))
  refine wpQuiet_nil ?_
  intro w2 hw2
  obtain ⟨⟨d2, os2⟩, rfl⟩ := hw2
  have hBr := below_regrown W1 d2 os2
  have HB2 := Lib.hid (HB1.out.trans (hBr.mono hB1s))
  have HO2 := Lib.hid (HO.out.below hBr)
  clear CU2 CV2 CP2 q2 q4 hBr HB1 HO hB1s
  generalize grow (redrawn W1 d2) os2 = W2 at HB2 HO2 ⊢
  go_wp2_with fail
  go_loopw [8] (fun i wr => ∃ k : Nat, i = .int .i64 k ∧ k ≤ N ∧ Hid (Below W2.heap.size W2 wr)) (fun i _ => N - (intOf i).toNat)
  case atStart => exact ⟨0, rfl, Nat.zero_le _, Lib.hid (Below.refl _ _)⟩
  case round =>
    obtain ⟨k, rfl, hk, HB⟩ := hrel
    have HBW : Hid (Below W.heap.size W wr) := Lib.hid (HB2.out.trans (HB.out.mono HB2.out.size))
    by_cases hlt : k < N
    · have hkn : k < now.length := by rw [HN.out]; exact hlt
      have hkm : k < (now.map fun p => p.1.1).length := by rw [List.length_map]; exact hkn
      obtain ⟨hNc, g, rfl, hg, g0⟩ := (HO2.out.below HB.out).cell hkm
      obtain ⟨hsh, hdat⟩ := HSN.out k hkn
      obtain ⟨hNn, g1, rfl, hg1, f0, f1⟩ := (HFN.out wr HBW.out).cell hkn
      obtain ⟨x, hx⟩ : ∃ x, now[k] = x := ⟨_, rfl⟩
      have hxm : x ∈ now := by rw [← hx]; exact List.getElem_mem _
      rw [List.getElem_map, hx] at g0
      rw [hx] at hsh hdat f0 f1
      obtain ⟨xA, xc, hxv, _⟩ := ((HFN.out wr HBW.out).2 x hxm).form
      have HXB : Hid (∀ W', Below wr.heap.size wr W' → Bytes W'.heap.size W' (.slice xA x.1.2.length xc) x.1.2) := Lib.hid fun W' hB => by
        rw [← hxv]
        exact (((HFN.out wr HBW.out).2 x hxm).below hB).bytes
      rw [hxv] at f1
      have CR2 := CR.out wr x.1.1 HBW.out hsh
      rw [hdat] at CR2
      have CRH := Lib.hid CR2
      obtain ⟨⟨_, _, r2, _, _⟩, _⟩ := (HRD.out wr HBW.out).cells
      have hql := (HRD.out wr HBW.out).lt
      obtain ⟨nm, hnm⟩ : ∃ nm, x.1.1 = nm := ⟨_, rfl⟩
      obtain ⟨xl, hxl⟩ : ∃ n, x.1.2.length = n := ⟨_, rfl⟩
      rw [hnm] at g0 f0 CRH
      rw [hxl] at f1 HXB
      have HXL := Lib.hid hxl
      have hkI : (k : Int) < (N : Int) := by omega
      have hNcI : (N : Int) ≤ (c : Int) := by omega
      have hNnI : (N : Int) ≤ (nc : Int) := by omega
      have hc0 : (nm.toList == nm.toList) = true := by simp
      clear hkm hxm hx hsh hdat hxv CR2 hnm hxl
      go_wp2_with fail
      refine CRH.out.mono ?_
      rintro e w5 ⟨v, rfl, hO5, hB5⟩
      obtain ⟨vA, vc, rfl⟩ := hO5.bytes.form
      have g0' := (hB5.cell (p := ⟨g, k, none⟩) hg).trans g0
      have f0' := (hB5.cell (p := ⟨g1, k * 2, none⟩) hg1).trans f0
      have f1' := (hB5.cell (p := ⟨g1, k * 2 + 1, none⟩) hg1).trans f1
      have r2' := (hB5.cell (p := ⟨q, 2, none⟩) hql).trans r2
      have HB5 := Lib.hid (HB.out.trans (hB5.mono HB.out.size))
      have CS : Hid (∀ W', (W' = w5 ∨ ∃ n, W' = w5.drewN n) → Calls Try.prog 17 #[.slice vA xl vc, .slice xA xl xc] W' fun e W2 => e = .returned (.bool true) ∧ W2 = W') := Lib.hid fun W' h0 => by
        have hB : Below w5.heap.size w5 W' := by
          have h := Below.refl w5.heap.size w5
          obtain rfl | ⟨n, rfl⟩ := h0
          · exact h
          · exact ⟨h.os, h.tape, h.output, h.size, h.block⟩
        have b1 := (hO5.below hB).bytes
        have b2 := HXB.out W' (hB5.trans (hB.mono hB5.size))
        have h := same_calls _ _ _ _ W' b1 b2
        rw [decide_eq_true (by rfl)] at h
        simp only [Option.getD_some, HXL.out] at h
        exact h
      simp only [Option.getD_some, HXL.out, Option.isSome_some]
      clear hO5 hB5 HXB CRH g0 f0 f1 r2 HB HBW
      go_wp2_with fail
      go_quiet ((go_at_call 17; exact Calls.quiet_of_same (CS.out _ (.inr ⟨_, rfl⟩))))
      have HB6 := Lib.hid (below_drewN (m := nq) HB5.out)
      clear HB5 CS g0' f0' f1' r2'
      go_wp2_with fail
      go_roundw
      case rel => exact ⟨k + 1, by go_num, by omega, HB6⟩
      case measure => simp [intOf]; omega
    · have hkI : ¬ (k : Int) < (N : Int) := by omega
      have HBW0 := HBW
      clear HB HBW HO2 HB2
      go_wp2_with fail
      obtain ⟨wA, hwA⟩ : ∃ x, x = wr := ⟨_, rfl⟩
      rw [← hwA] at HBW0 ⊢
      clear hwA wr
      go_loopw [11] (fun i wr => ∃ k : Nat, i = .int .i64 k ∧ k ≤ M ∧ Hid (Below W.heap.size W wr)) (fun i _ => M - (intOf i).toNat)
      case atStart => exact ⟨0, rfl, Nat.zero_le _, HBW0⟩
      case round =>
        obtain ⟨k2, rfl, hk2, HBW⟩ := hrel
        obtain ⟨⟨_, _, r2, r3, _⟩, _⟩ := (HRD.out wr HBW.out).cells
        have hql := (HRD.out wr HBW.out).lt
        by_cases hlt2 : k2 < M
        · have hkn : k2 < safe.length := by rw [HM.out]; exact hlt2
          obtain ⟨hsh, hdat⟩ := HSS.out k2 hkn
          obtain ⟨hNn, g1, rfl, hg1, f0, f1⟩ := (HFS.out wr HBW.out).cell hkn
          obtain ⟨x, hx⟩ : ∃ x, safe[k2] = x := ⟨_, rfl⟩
          have hxm : x ∈ safe := by rw [← hx]; exact List.getElem_mem _
          rw [hx] at hsh hdat f0 f1
          obtain ⟨xA, xc, hxv, _⟩ := ((HFS.out wr HBW.out).2 x hxm).form
          have HXB : Hid (∀ W', Below wr.heap.size wr W' → Bytes W'.heap.size W' (.slice xA x.1.2.length xc) x.1.2) := Lib.hid fun W' hB => by
            rw [← hxv]
            exact (((HFS.out wr HBW.out).2 x hxm).below hB).bytes
          rw [hxv] at f1
          have CR2 := CD.out wr x.1.1 HBW.out hsh
          rw [hdat] at CR2
          have CRH := Lib.hid CR2
          obtain ⟨nm, hnm⟩ : ∃ nm, x.1.1 = nm := ⟨_, rfl⟩
          obtain ⟨xl, hxl⟩ : ∃ n, x.1.2.length = n := ⟨_, rfl⟩
          rw [hnm] at f0 CRH
          rw [hxl] at f1 HXB
          have HXL := Lib.hid hxl
          have hkI2 : (k2 : Int) < (M : Int) := by omega
          have hNnI : (M : Int) ≤ (sc : Int) := by omega
          clear hxm hx hsh hdat hxv CR2 hnm hxl r2
          go_wp2_with fail
          refine CRH.out.mono ?_
          rintro e w5 ⟨v, rfl, hO5, hB5⟩
          obtain ⟨vA, vc, rfl⟩ := hO5.bytes.form
          have f1' := (hB5.cell (p := ⟨g1, k2 * 2 + 1, none⟩) hg1).trans f1
          have r3' := (hB5.cell (p := ⟨q, 3, none⟩) hql).trans r3
          have HB5 := Lib.hid (HBW.out.trans (hB5.mono HBW.out.size))
          have CS : Hid (Calls Try.prog 17 #[.slice vA xl vc, .slice xA xl xc] w5 fun e W2 => e = .returned (.bool true) ∧ W2 = w5) := Lib.hid (by
            have b1 := hO5.bytes
            have b2 := HXB.out w5 hB5
            have h := same_calls _ _ _ _ w5 b1 b2
            rw [decide_eq_true (by rfl)] at h
            simp only [Option.getD_some, HXL.out] at h
            exact h)
          simp only [Option.getD_some, HXL.out, Option.isSome_some]
          clear hO5 hB5 HXB CRH f0 f1 r3 HBW
          go_wp2_with fail
          refine CS.out.mono ?_
          rintro e w6 ⟨rfl, hw6⟩
          rw [hw6]
          go_wp2_with fail
          go_roundw
          case rel => exact ⟨k2 + 1, by go_num, by omega, HB5⟩
          case measure => simp [intOf]; omega
        · have hkI2 : ¬ (k2 : Int) < (M : Int) := by omega
          obtain ⟨D1, hD1⟩ : ∃ x, datF now s = x := ⟨_, rfl⟩
          obtain ⟨D2, hD2⟩ : ∃ x, datF safe s = x := ⟨_, rfl⟩
          have hbn : getB now s = D1.getD [] := by rw [← hD1]; exact (getB_datF now s).1
          have hbs : getB safe s = D2.getD [] := by rw [← hD2]; exact (getB_datF safe s).1
          have hin : (getF now s).isSome = D1.isSome := by rw [← hD1]; unfold datF; cases getF now s <;> rfl
          have his : (getF safe s).isSome = D2.isSome := by rw [← hD2]; unfold datF; cases getF safe s <;> rfl
          obtain ⟨b1, hb1⟩ : ∃ x, D1.getD [] = x := ⟨_, rfl⟩
          obtain ⟨b2, hb2⟩ : ∃ x, D2.getD [] = x := ⟨_, rfl⟩
          obtain ⟨t1, ht1⟩ : ∃ x, D1.isSome = x := ⟨_, rfl⟩
          obtain ⟨t2, ht2⟩ : ∃ x, D2.isSome = x := ⟨_, rfl⟩
          rw [hb1] at hbn
          rw [hb2] at hbs
          rw [ht1] at hin
          rw [ht2] at his
          obtain ⟨l1, hl1⟩ : ∃ x, b1.length = x := ⟨_, rfl⟩
          obtain ⟨l2, hl2⟩ : ∃ x, b2.length = x := ⟨_, rfl⟩
          have hvn : ∀ W', Below W.heap.size W W' → Buf W' base 5 (getV now s) b1 := fun W' hB => by rw [← hbn]; exact getV_buf (HFN.out W' hB)
          have hvs : ∀ W', Below W.heap.size W W' → Buf W' base 5 (getV safe s) b2 := fun W' hB => by rw [← hbs]; exact getV_buf (HFS.out W' hB)
          obtain ⟨vnA, vnc, hvne, _⟩ := (hvn wr HBW.out).form
          obtain ⟨vsA, vsc, hvse, _⟩ := (hvs wr HBW.out).form
          rw [hl1] at hvne
          rw [hl2] at hvse
          rw [hvne] at hvn
          rw [hvse] at hvs
          have CR1 : Hid (Calls Try.prog 14 #[.pointer (some ⟨db, 0, none⟩), .string s] wr fun e W' => ∃ A c, e = .returned (.tuple #[.slice A l1 c, .bool t1]) ∧ Below wr.heap.size wr W' ∧ Hid (OwnB W' wr.heap.size 5 (.slice A l1 c) b1)) := Lib.hid (by
            have h := CR.out wr s HBW.out HSH.out
            rw [hD1] at h
            refine h.mono ?_
            rintro e W' ⟨v, rfl, hO, hB⟩
            rw [hb1] at hO
            obtain ⟨A, c, rfl⟩ := hO.bytes.form
            rw [hl1] at hO ⊢
            exact ⟨A, c, by rw [ht1], hB, Lib.hid hO⟩)
          have CR2 : Hid (∀ W0, Below W.heap.size W W0 → Calls Try.prog 16 #[.pointer (some ⟨db, 0, none⟩), .string s] W0 fun e W' => ∃ A c, e = .returned (.tuple #[.slice A l2 c, .bool t2]) ∧ Below W0.heap.size W0 W' ∧ Hid (OwnB W' W0.heap.size 5 (.slice A l2 c) b2)) := Lib.hid fun W0 hB0 => by
            have h := CD.out W0 s hB0 HSH.out
            rw [hD2] at h
            refine h.mono ?_
            rintro e W' ⟨v, rfl, hO, hB⟩
            rw [hb2] at hO
            obtain ⟨A, c, rfl⟩ := hO.bytes.form
            rw [hl2] at hO ⊢
            exact ⟨A, c, by rw [ht2], hB, Lib.hid hO⟩
          have CG1 : Hid (∀ W0, Below W.heap.size W W0 → Calls Try.prog 37 #[.slice nA N nc, .string s] W0 fun e W' => e = .returned (.tuple #[.slice vnA l1 vnc, .bool t1]) ∧ W' = W0) := Lib.hid fun W0 hB0 => by
            refine (CGN.out W0 hB0).mono ?_
            rintro e W' ⟨rfl, rfl⟩
            exact ⟨by rw [hvne, hin], rfl⟩
          have CG2 : Hid (∀ W0, Below W.heap.size W W0 → Calls Try.prog 37 #[.slice sA M sc, .string s] W0 fun e W' => e = .returned (.tuple #[.slice vsA l2 vsc, .bool t2]) ∧ W' = W0) := Lib.hid fun W0 hB0 => by
            refine (CGS.out W0 hB0).mono ?_
            rintro e W' ⟨rfl, rfl⟩
            exact ⟨by rw [hvse, his], rfl⟩
          have HVN := Lib.hid hvn
          have HVS := Lib.hid hvs
          have hqq : ∀ x : Bool, (x == x) = true := fun x => by cases x <;> rfl
          clear hD1 hD2 hbn hbs hin his hb1 hb2 ht1 ht2 hl1 hl2 hvn hvs hvne hvse CGN CGS CR CD HSN HSS
          go_wp2_with fail
          refine CR1.out.mono ?_
          rintro e w5 ⟨a1, c1, rfl, hB5, HO5⟩
          have hBa := HBW.out.trans (hB5.mono HBW.out.size)
          have r2' := (hB5.cell (p := ⟨q, 2, none⟩) hql).trans r2
          have r3' := (hB5.cell (p := ⟨q, 3, none⟩) hql).trans r3
          have hql5 := Nat.lt_of_lt_of_le hql hB5.size
          have CG1' := Lib.hid (CG1.out w5 hBa)
          have CR2' := Lib.hid (CR2.out w5 hBa)
          have HBA := Lib.hid hBa
          clear hB5 hBa CR1 CG1 CR2 r2 r3 HBW hql
          go_wp2_with fail
          refine CG1'.out.mono ?_
          rintro e w6 ⟨rfl, hw6⟩
          rw [hw6]
          go_wp2_with fail
          refine CR2'.out.mono ?_
          rintro e w7 ⟨a2, c2, rfl, hB7, HO7⟩
          have hBb := HBA.out.trans (hB7.mono HBA.out.size)
          have r3'' := (hB7.cell (p := ⟨q, 3, none⟩) hql5).trans r3'
          have CG2' := Lib.hid (CG2.out w7 hBb)
          have S1 : Hid (Calls Try.prog 17 #[.slice a1 l1 c1, .slice vnA l1 vnc] w7 fun e W' => e = .returned (.bool true) ∧ W' = w7) := Lib.hid (by
            have h := same_calls _ _ _ _ w7 (HO5.out.below hB7).bytes (HVN.out w7 hBb).bytes
            rwa [decide_eq_true rfl] at h)
          have S2 : Hid (Calls Try.prog 17 #[.slice a2 l2 c2, .slice vsA l2 vsc] w7 fun e W' => e = .returned (.bool true) ∧ W' = w7) := Lib.hid (by
            have h := same_calls _ _ _ _ w7 HO7.out.bytes (HVS.out w7 hBb).bytes
            rwa [decide_eq_true rfl] at h)
          have HBB := Lib.hid hBb
          clear hB7 hBb HO5 HO7 HVN HVS CG2 r2' r3' HBA CR2' CG1'
          go_wp2_with fail
          refine CG2'.out.mono ?_
          rintro e w8 ⟨rfl, hw8⟩
          rw [hw8]
          clear CG2'
          go_wp2_with fail
          refine S1.out.mono ?_
          rintro e w9 ⟨rfl, hw9⟩
          rw [hw9]
          go_wp2_with fail
          refine S2.out.mono ?_
          rintro e w10 ⟨rfl, hw10⟩
          rw [hw10]
          go_wp2_with fail
          go_ret
          exact ⟨rfl, HBB.out⟩

/-- The law's question of both disks. -/
theorem alike_both {K : Nat → Prop} {w W : World} {db q : Nat} {D : DS} (h : Both K w db q D D W) (hmade : D.made ≤ 100000) (s : ByteArray) (hs : Short s) :
    Calls Try.prog 11 #[.pointer (some ⟨db, 0, none⟩), .pointer (some ⟨q, 0, none⟩), .string s] W fun e W' => e = .returned (.bool true) ∧ Stood K w db q D W W' := by
  obtain ⟨R, ⟨O, hd, _⟩, ⟨nv, sv, cv, now, safe, chs, hr⟩, _⟩ := id h
  refine (alike_calls W O db D hd hmade hr s hs).mono ?_
  rintro e W' ⟨rfl, hB⟩
  exact ⟨rfl, h.below hB, h.same hB⟩

end Go.Proofs.Ytmegiilkcidanaa.Disk
