/-
  Put together out of texts of one chain: what they hold stands ahead of each.
-/
import Derived.Test.YtnhkpemajknfnaaGreatDoorGSeglogHeads06
import Derived.Test.YtnhkpemajknfnaaGreatDoorGSeglogHeads08
import Derived.Test.YtnhkpemajknfnaaGreatDoorDiskLayN
import Derived.Shelf.SortM.Plain
import Derived.Shelf.SortM.SortNone
import Derived.Ground.SlgmProg
import Derived.Sort.Walk0
import Derived.Test.YtnhkpemajknfnaaGreatDoorGSeglogHeads17
import Derived.Test.YtnhkpemajknfnaaGreatDoorByteRows
import Derived.WalkMore
import Derived.Deep.RegionWith
import Derived.Deep.QuietTactic
/-
  Contract of the disk's Names, for a seat that has no reference disk (picked out of DiskRefWith, DiskRefMath and DiskNames).
-/
namespace Go.Proofs.YtnhkpemajknfnaaGreatDoor.Disk
open Go Go.RowKit Go.Lib Go.Sort Go.Proofs.YtnhkpemajknfnaaGreatDoor.Law

/-- The order of names. -/
theorem bytesLess_irr : ∀ l : List UInt8, Op.bytesLess l l = false
  | [] => rfl
  | a :: l => by
    have h : ¬ a < a := by intro h; exact Nat.lt_irrefl _ (UInt8.lt_iff_toNat_lt.1 h)
    simp [Op.bytesLess, bytesLess_irr l, h]
def ltN (a b : ByteArray) : Bool := Op.bytesLess a.toList b.toList
theorem bl_cons (a b : UInt8) (x y : List UInt8) : Op.bytesLess (a :: x) (b :: y) = true ↔ a.toNat < b.toNat ∨ (a = b ∧ Op.bytesLess x y = true) := by
  simp [Op.bytesLess, UInt8.lt_iff_toNat_lt]
theorem bl_trans : ∀ x y z : List UInt8, Op.bytesLess x y = true → Op.bytesLess y z = true → Op.bytesLess x z = true
  | _, [], _, h, _ => by simp [Op.bytesLess] at h
  | _, _ :: _, [], _, h => by simp [Op.bytesLess] at h
  | [], _ :: _, _ :: _, _, _ => by simp [Op.bytesLess]
  | a :: x, b :: y, c :: z, h1, h2 => by
    rw [bl_cons] at h1 h2 ⊢
    rcases h1 with h1 | ⟨rfl, h1⟩
    · rcases h2 with h2 | ⟨rfl, h2⟩
      · left; omega
      · left; exact h1
    · rcases h2 with h2 | ⟨rfl, h2⟩
      · left; exact h2
      · right; exact ⟨rfl, bl_trans x y z h1 h2⟩
theorem bl_total : ∀ x y : List UInt8, Op.bytesLess x y = false → x ≠ y → Op.bytesLess y x = true
  | [], [], _, h => absurd rfl h
  | _ :: _, [], _, _ => by simp [Op.bytesLess]
  | [], _ :: _, h, _ => by simp [Op.bytesLess] at h
  | a :: x, b :: y, h, hne => by
    have h' : ¬ (a.toNat < b.toNat ∨ (a = b ∧ Op.bytesLess x y = true)) := by
      rw [← bl_cons, h]; decide
    rw [bl_cons]
    by_cases hab : a = b
    · subst hab
      right
      refine ⟨rfl, bl_total x y ?_ (fun e => hne (by rw [e]))⟩
      cases hb : Op.bytesLess x y with
      | false => rfl
      | true => exact absurd (.inr ⟨rfl, hb⟩) h'
    · left
      have : a.toNat ≠ b.toNat := fun e => hab (UInt8.toNat_inj.1 e)
      omega
theorem ltN_trans {a b c : ByteArray} (h1 : ltN a b = true) (h2 : ltN b c = true) : ltN a c = true := bl_trans _ _ _ h1 h2
theorem ltN_total {a b : ByteArray} (h : ltN a b = false) (hne : a ≠ b) : ltN b a = true := bl_total _ _ h fun e => hne (by
  rw [Lib.toList_data, Lib.toList_data] at e
  exact ByteArray.ext (Array.toList_inj.1 e))
theorem ltN_ne {a b : ByteArray} (h : ltN a b = true) : a ≠ b := by
  rintro rfl
  rw [ltN, bytesLess_irr] at h
  exact absurd h (by decide)
def txt (s : ByteArray) : Value := .string s
/-- A row of texts. -/
def OwnS (W : World) (base : Nat) (v : Value) (l : List ByteArray) : Prop := W.ownsRow base 9 1 v l.length (l.map txt)
theorem OwnS.nil (W : World) (base : Nat) : OwnS W base (.slice none 0 0) [] := ⟨rfl, .inl ⟨rfl, rfl⟩⟩
theorem OwnS.own {W : World} {base : Nat} {v : Value} {l : List ByteArray} (h : OwnS W base v l) : ∀ g, v.ownBlock = some g → base ≤ g ∧ g < W.heap.size := fun g hg => World.ownsRow.lt h g hg
theorem OwnS.form {W : World} {base : Nat} {v : Value} {l : List ByteArray} (h : OwnS W base v l) : ∃ A cap, v = .slice A l.length cap := by
  rcases h.2 with ⟨rfl, h0⟩ | ⟨g, cap, cur, rfl, _⟩
  · exact ⟨none, 0, by rw [h0]⟩
  · exact ⟨_, _, rfl⟩
theorem OwnS.keep {W W' : World} {base : Nat} {v : Value} {l : List ByteArray} (h : OwnS W base v l) (hb : ∀ g, v.ownBlock = some g → W'.heap[g]? = W.heap[g]?) : OwnS W' base v l := by
  refine ⟨h.1, ?_⟩
  rcases h.2 with h0 | ⟨g, cap, cur, rfl, h1, h2, h3⟩
  · exact .inl h0
  · exact .inr ⟨g, cap, cur, rfl, h1, (hb g rfl).trans h2, h3⟩
theorem OwnS.below {W W' : World} {base : Nat} {v : Value} {l : List ByteArray} (h : OwnS W base v l) (hB : Below W.heap.size W W') : OwnS W' base v l := h.keep fun g hg => hB.block g (h.own g hg).2
theorem OwnS.cell {W : World} {base n cap : Nat} {A : Option Addr} {l : List ByteArray} (h : OwnS W base (.slice A n cap) l) {i : Nat} (hi : i < l.length) : n ≤ cap ∧ ∃ g, A = some ⟨g, 0, none⟩ ∧ g < W.heap.size ∧ W.cell? ⟨g, i, none⟩ = some (.string l[i]) := by
  rcases h.2 with ⟨_, h0⟩ | ⟨g, cap', cur, hv, _, hg, hn, hcm, hcs, ht⟩
  · omega
  · simp only [Value.slice.injEq] at hv
    obtain ⟨rfl, rfl, rfl⟩ := hv
    refine ⟨hn, g, rfl, (Array.getElem?_eq_some_iff.1 hg).1, ?_⟩
    have h1 : (cur.toList.take (l.length * 1))[i]? = (l.map txt)[i]? := by rw [ht]
    rw [List.getElem?_take_of_lt (by omega), Array.getElem?_toList, List.getElem?_map, List.getElem?_eq_getElem hi] at h1
    simp only [World.cell?, hg]
    exact h1
theorem info_str : (Tryz.prog.info? 9).map (fun i => (i.zero, i.size, i.bytes)) = some (some (.string ⟨#[]⟩), 1, 16) := by kernel_rfl
theorem OwnS.append {W : World} {base : Nat} {v : Value} {l : List ByteArray} (h : OwnS W base v l) (hbase : base ≤ W.heap.size) (s : ByteArray) (ty : TypeId) (b : Nat) {tg : TypeId}
    (hb : W.heap[b]? = some (.cells #[.string s] tg (0, 0))) (hroom : (l.length + 1) * 16 ≤ 140737488355328) :
    ∃ A' c' W', (Builtin.append_ #[124, 124] ty #[v, .slice (some ⟨b, 0, none⟩) 1 1]).run Tryz.prog W = .ok (.slice A' (l.length + 1) c') W' ∧ OwnS W' base (.slice A' (l.length + 1) c') (l ++ [s]) ∧ W.grownBy W' v.ownBlock ∧ ((Value.slice A' (l.length + 1) c').ownBlock = v.ownBlock ∨ (Value.slice A' (l.length + 1) c').ownBlock = some W.heap.size) := by
  obtain ⟨i0, hi, hz0, hz1, hz2⟩ := info_parts info_str
  obtain ⟨v', W', hrun, h2, h3, _, h5⟩ := run_append_own_at (P := Tryz.prog) W base 124 ty 9 i0 _ 1 16 Tryz.underlying124 hi hz0 hz1 hz2 rfl (by decide) v l.length (l.map txt) h ⟨b, 0, none⟩ 1 1 [txt s] rfl
    (fun j u hu => by
      rw [Addr.add_lit]
      match j, hu with
      | 0, hu => simp [txt] at hu; subst hu; simp [World.cell?, hb]
      | j + 1, hu => simp at hu) (by simp [txt, Value.oneCell']) (by simp only [maxLen]; omega) hroom hbase
  have h2' : OwnS W' base v' (l ++ [s]) := by
    show W'.ownsRow _ _ _ _ _ _
    rw [List.length_append, List.map_append]
    exact h2
  obtain ⟨A', c', rfl⟩ := h2'.form
  rw [List.length_append] at hrun h2' h5
  exact ⟨A', c', W', hrun, h2', h3, h5⟩
/-- The same texts in order: what the library's sort makes of them. -/
def sortN (l : List ByteArray) : List ByteArray := ((l.map fun s => s.data.toList).mergeSort fun x y => decide (x ≤ y)).map fun b => ⟨b.toArray⟩
theorem back_bytes (l : List ByteArray) : (l.map fun s => s.data.toList).map (fun b => (⟨b.toArray⟩ : ByteArray)) = l := by
  rw [List.map_map]
  conv => rhs; rw [← List.map_id l]
  exact List.map_congr_left fun s _ => rfl
theorem sortN_perm (l : List ByteArray) : (sortN l).Perm l := by
  have h := (List.mergeSort_perm (l.map fun s => s.data.toList) fun x y => decide (x ≤ y)).map fun b => (⟨b.toArray⟩ : ByteArray)
  rw [back_bytes] at h
  exact h
theorem le_bl {x y : List UInt8} : decide (x ≤ y) = true ↔ Op.bytesLess y x = false := by
  rw [decide_eq_true_iff, bytesLess_eq, decide_eq_false_iff_not, List.not_lt]
theorem sortN_sorted {l : List ByteArray} (hn : l.Nodup) : (sortN l).Pairwise fun a b => ltN a b = true := by
  have h1 : ((l.map fun s => s.data.toList).mergeSort fun x y => decide (x ≤ y)).Pairwise fun a b => decide (a ≤ b) = true := by
    refine List.pairwise_mergeSort (le := fun x y => decide (x ≤ y)) ?_ ?_ _
    · intro a b c h1 h2
      rw [le_bl] at *
      cases h : Op.bytesLess c a with
      | false => rfl
      | true =>
        exfalso
        by_cases hcb : c = b
        · subst hcb; rw [h1] at h; cases h
        · have := bl_trans b c a (bl_total c b h2 hcb) h
          rw [h1] at this; cases this
    · intro a b
      rw [Bool.or_eq_true, le_bl, le_bl]
      cases h : Op.bytesLess b a with
      | false => exact .inl rfl
      | true =>
        right
        cases h2 : Op.bytesLess a b with
        | false => rfl
        | true =>
          have := bl_trans a b a h2 h
          rw [bytesLess_irr] at this; cases this
  have hnd : (sortN l).Nodup := (sortN_perm l).nodup_iff.2 hn
  unfold sortN at hnd ⊢
  rw [List.Nodup, List.pairwise_map] at hnd
  rw [List.pairwise_map]
  refine (h1.and hnd).imp ?_
  rintro a b ⟨h2, h3⟩
  rw [le_bl] at h2
  show Op.bytesLess (ByteArray.toList _) (ByteArray.toList _) = true
  rw [Lib.toList_data, Lib.toList_data]
  refine bl_total b a h2 fun e => h3 (by rw [e])
theorem putCells_take (cur : Array Value) (d : Array (List UInt8)) (h : d.size ≤ cur.size) : (putCells encStr 0 d cur).toList.take d.size = d.toList.map encStr := by
  apply List.ext_getElem?
  intro j
  by_cases hj : j < d.size
  · rw [List.getElem?_take_of_lt hj, Array.getElem?_toList]
    simp [putCells, hj, show j < cur.size by omega]
  · rw [List.getElem?_take_eq_none (by omega), List.getElem?_eq_none (by simp; omega)]
theorem OwnS.sort {W : World} {base : Nat} {v : Value} {l : List ByteArray} (h : OwnS W base v l) (hlen : l.length ≤ 4294967296) :
    Calls Tryz.prog 89 #[v] W fun e W' => e = .returned (.tuple #[]) ∧ OwnS W' base v (sortN l) ∧ W.grownBy W' v.ownBlock := by
  by_cases h0 : l.length = 0
  · obtain ⟨A, cap, rfl⟩ := h.form
    have hl : l = [] := List.eq_nil_of_length_eq_zero h0
    subst hl
    have hcon := AnyM.slices_Sort_string_none Tryz.sortStr A cap W
    change Calls Tryz.prog 89 _ _ _ at hcon
    refine hcon.mono ?_
    rintro e W' ⟨rfl, rfl⟩
    have hs0 : sortN [] = [] := by simp [sortN]
    exact ⟨rfl, by rw [hs0]; exact h, rfl, rfl, rfl, Nat.le_refl _, fun _ _ _ => rfl⟩
  · rcases h.2 with ⟨_, h1⟩ | ⟨g, cap, cur, rfl, hbg, hg, hn, hcm, hcs, ht⟩
    · exact absurd h1 h0
    · have hgl := (Array.getElem?_eq_some_iff.1 hg).1
      have hH : Holds encStr W g 0 (l.map fun s => s.data.toList).toArray := by
        intro t ht'
        have ht2 : t < l.length := by simpa using ht'
        refine ⟨?_, by simp [World.frozen?, hg]⟩
        obtain ⟨_, g', hA, _, hc⟩ := h.cell ht2
        simp only [Option.some.injEq, Addr.mk.injEq, and_true] at hA
        subst hA
        rw [Nat.zero_add, hc]
        simp [ht2]
      have hcon := AnyM.slices_Sort_string Tryz.sortStr g 0 cap (l.map fun s => s.data.toList) W hH hgl (by simp; omega)
      change Calls Tryz.prog 89 _ _ _ at hcon
      simp only [List.length_map] at hcon
      refine hcon.mono ?_
      rintro e W' ⟨rfl, n, os, rfl⟩
      obtain ⟨ss, hss⟩ : ∃ ss, ((l.map fun s => s.data.toList).mergeSort fun x y => decide (x ≤ y)) = ss := ⟨_, rfl⟩
      have hml : ss.length = l.length := by rw [← hss, List.length_mergeSort, List.length_map]
      have hsn : sortN l = ss.map fun b => ⟨b.toArray⟩ := by unfold sortN; rw [hss]
      rw [hss, hsn]
      refine ⟨rfl, ⟨by simp, .inr ⟨g, cap, putCells encStr 0 ss.toArray cur, by simp [hml], hbg, ?_, by simp [hml]; omega, hcm, by simp [putCells, hcs], ?_⟩⟩, rfl, rfl, rfl, ?_, fun k hk hne => ?_⟩
      · rw [Go.Sort.heap_grow_old _ _ (by simp [putRow, mapBlock, Sort.ahead]; exact hgl)]
        simp [putRow, mapBlock, Sort.ahead, Array.getElem?_modify, hg, onCells]
      · have hFs : ss.toArray.size = (ss.map fun b => (⟨b.toArray⟩ : ByteArray)).length * 1 := by simp
        rw [← hFs, putCells_take _ _ (by simp; omega)]
        simp [txt, Function.comp_def]
      · simp [putRow, mapBlock, Sort.ahead, grow]
      · rw [Go.Sort.heap_grow_old _ _ (by simp [putRow, mapBlock, Sort.ahead]; exact hk)]
        have : g ≠ k := fun e => hne (by simp [Value.ownBlock, e])
        simp [putRow, mapBlock, Sort.ahead, Array.getElem?_modify, this]
/-- The names of the files that are there, so far. -/
structure There (D : DS) (rest acc : List ByteArray) : Prop where
  accN : acc.Nodup
  restN : rest.Nodup
  ins : ∀ s ∈ acc, s ∈ D.names ∧ D.now s ≠ none ∧ s ∉ rest
  sub : ∀ s ∈ rest, s ∈ D.names
  all : ∀ s ∈ D.names, D.now s ≠ none → s ∈ acc ∨ s ∈ rest
  len : acc.length + rest.length ≤ D.names.length
theorem There.start {D : DS} (hw : WF D) : There D D.names [] := ⟨List.nodup_nil, hw.nodup, fun s h => by simp at h, fun _ h => h, fun s hs _ => .inr hs, by simp⟩
theorem There.skip {D : DS} {rest acc : List ByteArray} {s : ByteArray} (h : There D rest acc) (hs : s ∈ rest) (hn : D.now s = none) : There D (rest.erase s) acc := by
  refine ⟨h.accN, h.restN.erase _, fun x hx => ⟨(h.ins x hx).1, (h.ins x hx).2.1, fun e => (h.ins x hx).2.2 (List.mem_of_mem_erase e)⟩, fun x hx => h.sub x (List.mem_of_mem_erase hx), fun x hx hxn => ?_, ?_⟩
  · rcases h.all x hx hxn with h1 | h1
    · exact .inl h1
    · exact .inr ((List.mem_erase_of_ne (fun e => hxn (by rw [e]; exact hn))).2 h1)
  · have := h.len
    have h2 := List.length_erase_of_mem hs
    omega
theorem There.put {D : DS} {rest acc : List ByteArray} {s : ByteArray} (h : There D rest acc) (hs : s ∈ rest) (hn : D.now s ≠ none) : There D (rest.erase s) (acc ++ [s]) := by
  refine ⟨List.nodup_append.2 ⟨h.accN, by simp, fun a ha b hb => ?_⟩, h.restN.erase _, fun x hx => ?_, fun x hx => h.sub x (List.mem_of_mem_erase hx), fun x hx hxn => ?_, ?_⟩
  · simp only [List.mem_singleton] at hb
    subst hb
    rintro rfl
    exact (h.ins a ha).2.2 hs
  · rcases List.mem_append.1 hx with hx | hx
    · exact ⟨(h.ins x hx).1, (h.ins x hx).2.1, fun e => (h.ins x hx).2.2 (List.mem_of_mem_erase e)⟩
    · simp only [List.mem_singleton] at hx
      subst hx
      exact ⟨h.sub x hs, hn, fun e => (h.restN.mem_erase_iff.1 e).1 rfl⟩
  · by_cases hxs : x = s
    · exact .inl (by simp [hxs])
    · rcases h.all x hx hxn with h1 | h1
      · exact .inl (List.mem_append_left _ h1)
      · exact .inr ((List.mem_erase_of_ne hxs).2 h1)
  · have := h.len
    have h2 := List.length_erase_of_mem hs
    have h3 := List.length_pos_of_mem hs
    rw [List.length_append, List.length_singleton]
    omega
/-- What Names leaves. -/
def NamesO (w : World) (D : DS) (e : Ending) (W : World) : Prop := ∃ A n c l, e = .returned (.slice A n c) ∧ l.length = n ∧ OwnS W w.heap.size (.slice A n c) l ∧ (l.Pairwise fun a b => ltN a b = true) ∧ (∀ s, s ∈ l ↔ D.now s ≠ none) ∧ Below w.heap.size w W
theorem names_done {w W W' : World} {D : DS} {acc : List ByteArray} {A : Option Addr} {n c : Nat} (hw : WF D) (hT : There D [] acc) (hn : acc.length = n) (hO : OwnS W' (w.heap.size + 1) (.slice A n c) (sortN acc)) (hB : Below w.heap.size w W) (hS : OwnS W (w.heap.size + 1) (.slice A n c) acc) (hg : W.grownBy W' (Value.slice A n c).ownBlock) : NamesO w D (.returned (.slice A n c)) W' := by
  refine ⟨A, n, c, sortN acc, rfl, (sortN_perm acc).length_eq.trans hn, ⟨hO.1, ?_⟩, sortN_sorted hT.accN, fun s => ?_, hB.grown hg hB.size fun k hk => ?_⟩
  · rcases hO.2 with h0 | ⟨g, cap, cur, h0, h1, h2⟩
    · exact .inl h0
    · exact .inr ⟨g, cap, cur, h0, by omega, h2⟩
  · rw [(sortN_perm acc).mem_iff]
    constructor
    · exact fun hs => (hT.ins s hs).2.1
    · intro hs
      rcases hT.all s ((hw.names s).2 (.inl hs)) hs with h | h
      · exact h
      · simp at h
  · have := (hS.own k hk).1
    omega
set_option maxRecDepth 100000 in
set_option maxHeartbeats 2000000 in
theorem names_calls (w : World) (O : Owner) (db : Nat) (D : DS) (h : DiskAt w O db D) (hw : WF D) (hmade : D.made ≤ 4294967296) :
    Calls Tryz.prog 77 #[.pointer (some ⟨db, 0, none⟩)] w (NamesO w D) := by
  obtain ⟨mb, F, hc, hf⟩ := id h
  obtain ⟨n, hn, hm⟩ := hc.map
  have hdb := hc.disk.lt
  have hmbl := hm.lt
  obtain ⟨w', cnt, hrun, hR, hG, hS⟩ := hm.rng Tryz.underlying9 Tryz.underlying60 D.names hw.nodup (fun s hs => hw.short hs) hc.dom
  obtain ⟨⟨d0, _⟩, _⟩ := hc.disk.cells
  have HF : Hid (∀ s ∈ D.names, ∀ g, F s = some g → g < w.heap.size ∧ w.cell? ⟨g, 0, none⟩ = some (.bool (D.now s).isSome)) := Lib.hid fun s hs g hg => by
    obtain ⟨v, hv⟩ := DiskAt.files hf hs hg
    exact ⟨hv.1.lt, hv.1.cells.1.1⟩
  have HRUN := Lib.hid hrun
  have HR := Lib.hid hR
  have hB0 : Below w.heap.size w w' := ⟨hG.os, hG.tape, hG.output, hG.size, fun k hk => hG.block k hk (by simp)⟩
  have HB0 : Hid (Below w.heap.size w w' ∧ w.heap.size + 1 ≤ w'.heap.size) := Lib.hid ⟨hB0, by omega⟩
  have HT0 := Lib.hid (There.start hw)
  have HWF := Lib.hid hw
  have hcnt := hw.count
  have HCNT := Lib.hid hcnt
  clear h hw hc hf hm hrun hR hG hB0 hcnt hS
  go_enter Tryz.func77, Tryz.ntmps77
  go_wp2_with (first | (at_range; refine wpList_range_ran rfl _ _ rfl rfl HRUN.out ?_))
  go_frame
  go_loopw [3] (fun v wr => ∃ (acc rest : List ByteArray) (c : Nat) (A2 : Option Addr) (n2 c2 : Nat), v = .slice A2 n2 c2 ∧ Hid (There D rest acc ∧ acc.length = n2 ∧ OwnS wr (w.heap.size + 1) (.slice A2 n2 c2) acc) ∧ Rng Tryz.prog 9 wr mb w.heap.size n F rest c ∧ Hid (Below w.heap.size w wr ∧ w.heap.size + 1 ≤ wr.heap.size)) (fun _ wr => wr.rangeLeft mb w.heap.size)
  case atStart => exact ⟨[], D.names, cnt, none, 0, 0, rfl, Lib.hid ⟨HT0.out, rfl, OwnS.nil _ _⟩, HR.out, HB0⟩
  case round =>
    obtain ⟨acc, rest, c, A2, n2, c2, rfl, HO, hrng, HB⟩ := hrel
    have hleft := hrng.left
    rcases hrng.next Tryz.underlying9 0 with ⟨rfl, hnx⟩ | ⟨s, g, w1, c1, hs, hF, hnx, hrng1, hlt, hg1, hs1, hen⟩
    · have HNX := Lib.hid hnx
      obtain ⟨hT, hnl, hO⟩ := HO.out
      have hsort := hO.sort (by have := hT.len; have := HCNT.out; omega)
      have CS : Hid (Calls Tryz.prog 89 #[.slice A2 n2 c2] wr fun e W' => e = .returned (.tuple #[]) ∧ Hid (NamesO w D (.returned (.slice A2 n2 c2)) W')) := Lib.hid (hsort.mono fun e W' hp => ⟨hp.1, Lib.hid (names_done HWF.out hT hnl hp.2.1 HB.out.1 hO hp.2.2)⟩)
      clear hnx hrng hleft HO hT hnl hO hsort HB
      go_wp2_with (first | (at_next; refine wpList_next_ran rfl _ _ rfl rfl HNX.out ?_) | (go_at_call 89; refine CS.out.mono ?_; rintro e W' ⟨rfl, HF2⟩))
      go_ret
      exact HF2.out
    · have HNX := Lib.hid hnx
      have HEN := Lib.hid hen
      obtain ⟨hT, hnl, hO⟩ := HO.out
      obtain ⟨hgl, hcell⟩ := HF.out s (hT.sub s hs) g hF
      have hB1 : Below w.heap.size w w1 := HB.out.1.grown hg1 HB.out.1.size (fun k e => by cases e; exact Nat.le_refl _)
      have hcell1 : w1.cell? ⟨g, 0, none⟩ = some (.bool (D.now s).isSome) := (hB1.cell (p := ⟨g, 0, none⟩) hgl).trans hcell
      have hO1 : OwnS w1 (w.heap.size + 1) (.slice A2 n2 c2) acc := hO.keep fun k hk => hg1.block k (hO.own k hk).2 (fun e => by
        have := (hO.own k hk).1
        cases e; omega)
      have hs2 : w.heap.size + 1 ≤ w1.heap.size := by rw [hs1]; exact HB.out.2
      have hl1 := hrng1.left
      have hlen := hT.len
      have hcnt := HCNT.out
      by_cases hnow : D.now s = none
      · have hfb : (D.now s).isSome = false := by rw [hnow]; rfl
        rw [hfb] at hcell1
        have HO2 : Hid (There D (rest.erase s) acc ∧ acc.length = n2 ∧ OwnS w1 (w.heap.size + 1) (.slice A2 n2 c2) acc) := Lib.hid ⟨hT.skip hs hnow, hnl, hO1⟩
        have HB1 := Lib.hid (And.intro hB1 hs2)
        have HR1 := Lib.hid hrng1
        clear hnx hen hrng hrng1 hcell hB1 hg1 hT hnl hO hO1 HO HB hfb hnow
        go_wp2_with (first | (at_next; refine wpList_next_ran rfl _ _ rfl rfl HNX.out ?_) | (refine wpList_entry_ran (o := ⟨some 15, _, _, _, _, _⟩) rfl _ rfl rfl HEN.out ?_))
        go_roundw
        case rel => exact ⟨acc, rest.erase s, c1, A2, n2, c2, rfl, HO2, HR1.out, HB1⟩
        case measure => rw [hleft, hl1]; exact hlt
      · have hfb : (D.now s).isSome = true := by
          cases hd : D.now s with
          | none => exact absurd hd hnow
          | some _ => rfl
        rw [hfb] at hcell1
        have hBa : Below w1.heap.size w1 (w1.alloc (.cells #[.string s] 9)) := (Below.refl _ _).alloc (Nat.le_refl _) _
        obtain ⟨A3, c3, w3, R3, O3, G3, own3⟩ := (hO1.below hBa).append (by have := hBa.size; omega) s 124 w1.heap.size (tg := 9) (by simp only [World.alloc, Array.getElem?_push_size]) (by omega)
        rw [hnl] at R3 O3
        rw [hs1] at R3
        have hr3 : Rng Tryz.prog 9 w3 mb w.heap.size n F (rest.erase s) c1 := by
          refine ((hrng1.at (hBa.block mb (by omega)) (hBa.block _ (by omega))).kept G3 (fun e => ?_) (fun e => ?_))
          · have := ((hO1.below hBa).own mb e.symm).1; omega
          · have := ((hO1.below hBa).own w.heap.size e.symm).1; omega
        have hB3 : Below w.heap.size w w3 := (hB1.trans (hBa.mono hB1.size)).grown G3 (by have := hB1.size; have := hBa.size; omega) fun k hk => by have := ((hO1.below hBa).own k hk).1; omega
        have hl3 := hr3.left
        have HO2 : Hid (There D (rest.erase s) (acc ++ [s]) ∧ (acc ++ [s]).length = n2 + 1 ∧ OwnS w3 (w.heap.size + 1) (.slice A3 (n2 + 1) c3) (acc ++ [s])) := Lib.hid ⟨hT.put hs hnow, by rw [List.length_append, hnl]; rfl, O3⟩
        have HB1 : Hid (Below w.heap.size w w3 ∧ w.heap.size + 1 ≤ w3.heap.size) := Lib.hid ⟨hB3, by have := G3.size; have := hBa.size; omega⟩
        have HR1 := Lib.hid hr3
        have R3' := Lib.hid R3
        clear hnx hen hrng hrng1 hcell hB1 hg1 hT hnl hO hO1 HO HB hfb hnow hBa R3 O3 G3 own3 hr3 hB3
        go_wp2_with (first | (at_next; refine wpList_next_ran rfl _ _ rfl rfl HNX.out ?_) | (refine wpList_entry_ran (o := ⟨some 15, _, _, _, _, _⟩) rfl _ rfl rfl HEN.out ?_) | (at_builtin; refine wpList_append_ran rfl _ _ _ rfl rfl rfl R3'.out ?_))
        go_roundw
        case rel => exact ⟨acc ++ [s], rest.erase s, c1, A3, n2 + 1, c3, rfl, HO2, HR1.out, HB1⟩
        case measure => rw [hleft, hl3]; exact hlt
/-- Names, beside blocks that are kept. -/
theorem Dx.names_calls {Fr : Nat → Prop} {w W : World} {db : Nat} {D : DS} (h : Dx Fr w db D W) (hmade : D.made ≤ 4294967296) :
    Calls Tryz.prog 77 #[.pointer (some ⟨db, 0, none⟩)] W (NamesO W D) := by
  obtain ⟨O, h1, _, _, h4, _⟩ := h
  exact Disk.names_calls W O db D h1 h4 hmade

end Go.Proofs.YtnhkpemajknfnaaGreatDoor.Disk

/-
  The walk of the law SeglogHeads: whatever the entries and the places, it returns true and nothing that lay has turned.
-/
namespace Go.Proofs.YtnhkpemajknfnaaGreatDoor.Seglog
open Go Go.RowKit Go.Lib Go.Sort Go.Proofs.YtnhkpemajknfnaaGreatDoor.Law Go.Proofs.YtnhkpemajknfnaaGreatDoor.Disk Go.Proofs.YtnhkpemajknfnaaGreatDoor.Crc

theorem noNames {Fr : Nat → Prop} {w W : World} {db : Nat} {D : DS} (h : Dx Fr w db D W) (hm : D.made ≤ 4294967296) (h0 : ∀ s, D.now s = none) : NoNames db W := fun W0 hB => by
  refine ((Dx.below h hB).names_calls hm).mono ?_
  rintro e W' ⟨A, n, c, l, rfl, hl, _, _, h1, hB'⟩
  have hl0 : l = [] := List.eq_nil_iff_forall_not_mem.2 fun s hs => ((h1 s).1 hs) (h0 s)
  subst hl0
  simp at hl
  subst hl
  exact ⟨⟨A, c, rfl⟩, hB'⟩

def logP : ByteArray := pre ⟨#[108, 111, 103]⟩
theorem logP_size : logP.size ≤ 13 := by decide
theorem logP_right (b : Nat) (hb : b ≤ 4611686018427387904) : rightB (fileN logP b) = true := file_right (p := logP) (by decide) (by decide) (by decide) (by omega)
theorem log_right : rightS ⟨#[108, 111, 103]⟩ = true := by decide

/-- A fresh log. -/
theorem start_calls {w W : World} {db room R : Nat} (h : Dk w db (DS.fresh R) W) (hr : 1 ≤ room ∧ room ≤ 1048576) :
    Calls Tryz.prog 12 #[.pointer (some ⟨db, 0, none⟩), .string ⟨#[108, 111, 103]⟩, .int .i64 (room : Nat)] W fun e W' => ∃ lb, e = .returned (.tuple #[.pointer (some ⟨lb, 0, none⟩), .int .i64 0]) ∧ ∃ Fr, LgK logP room Fr w lb db R W' [] 0 := by
  have hD := Dx.of h
  refine (open_none hD ⟨#[108, 111, 103]⟩ log_right room hr (noNames hD (Nat.zero_le _) (fun _ => rfl))).mono ?_
  rintro e W' ⟨lb, rfl, _, hL, _⟩
  exact ⟨lb, rfl, _, _, _, [], _, 0, 0, hL, Fine.fresh _ _, Nat.le_refl _, Nat.le_refl _, Nat.le_refl _, List.Pairwise.nil⟩

/-- Ints that came in. -/
theorem place_in (z : Int) (n : Nat) (h0 : 0 < n) (h1 : n ≤ 1000) : ∃ a : Nat, a < n ∧ wrap64 ((IntKind.u64.wrap z).tmod (n : Int)) = (a : Int) := by
  have h2 : 0 ≤ IntKind.u64.wrap z := wrap_u64_nonneg z
  have h3 : (IntKind.u64.wrap z).tmod (n : Int) = IntKind.u64.wrap z % (n : Int) := Int.tmod_eq_emod_of_nonneg h2
  have h4 : 0 ≤ IntKind.u64.wrap z % (n : Int) := Int.emod_nonneg _ (by omega)
  have h5 : IntKind.u64.wrap z % (n : Int) < (n : Int) := Int.emod_lt_of_pos _ (by omega)
  refine ⟨(IntKind.u64.wrap z % (n : Int)).toNat, by omega, ?_⟩
  rw [h3, IntWalk.wrap64_in _ (by omega)]
  omega

theorem LgL.more {p : ByteArray} {room lb db F q : Nat} {Fr : Nat → Prop} {w wr : World} {K : List (List Nat)} (h : LgL p room Fr w lb db wr K F q) : LgL p room Fr w lb db wr K F (q + 1) := by
  obtain ⟨base, v, l, D, M, h1, h2, h3, h4⟩ := h
  exact ⟨base, v, l, D, M, h1, h2, by omega, h4⟩
/-- A row that was kept. -/
theorem Rowy.at {w wr : World} {Fr : Nat → Prop} {A : Option Addr} {n c : Nat} {K : List (List Nat)} (h : Rowy w wr Fr (.slice A n c) K) (hn : K.length = n) (k : Nat) (hk : k < n) :
    ∃ g bs xA xc, A = some ⟨g, 0, none⟩ ∧ Fr g ∧ wr.cell? ⟨g, k, none⟩ = some (.slice xA bs.length xc) ∧ K[k]? = some bs ∧ Bytes w.heap.size w (.slice xA bs.length xc) bs := by
  obtain ⟨X, h1, h2, h3, h4⟩ := h
  obtain ⟨g, cap, h5, _⟩ := h1.formP (by omega)
  have h6 : A = some ⟨g, 0, none⟩ := by simp only [Value.slice.injEq] at h5; exact h5.1
  subst h6
  have hkx : k < X.length := by omega
  have hx : X[k]? = some X[k] := List.getElem?_eq_getElem hkx
  obtain ⟨bs, h7, h8⟩ := h4 k _ hx
  have h9 := (h1.cell hx).1
  obtain ⟨xA, xc, h10⟩ := h8.form
  rw [h10] at h8 h9
  exact ⟨g, bs, xA, xc, rfl, h3 g rfl, h9, h7, h8⟩

set_option maxRecDepth 100000 in
set_option maxHeartbeats 8000000 in
theorem seglogHeads_law (hk : ∀ w0 : World, Tab w0 → Tab10 w0 → Calls Tryz.prog 7 #[] w0 fun e W => e = .returned (.bool true) ∧ Below w0.heap.size w0 W)
    (ev : Value) (bss : List (List Nat)) (hl : bss.length ≤ maxLen) (cv : Value) (zs : List Int) (hzl : zs.length ≤ maxLen) (w : World) (hT : Tab w) (hT10 : Tab10 w) (hI : ByteRows w.heap.size w ev bss) (hC : Ints (fun b => b < w.heap.size) w cv zs) :
    Calls Tryz.prog 6 #[ev, cv] w fun e W' => e = .returned (.bool true) ∧ Below w.heap.size w W' := by
  simp only [maxLen] at hl hzl
  obtain ⟨A, cap, rfl⟩ := hI.form
  obtain ⟨CA, cc, rfl, _⟩ := id hC
  obtain ⟨N, hN⟩ : ∃ N, bss.length = N := ⟨_, rfl⟩
  obtain ⟨cn, hcn⟩ : ∃ cn, zs.length = cn := ⟨_, rfl⟩
  have CK := Lib.hid (hk w hT hT10)
  have HCRC : Hid (∀ W', Below w.heap.size w W' → Tab W') := Lib.hid fun W' hB => hT.below hB
  have HT10 := Lib.hid hT10
  have HI := Lib.hid hI
  have HC : Hid (∀ q, q < zs.length → ∃ z b2 off2, CA = some ⟨b2, off2, none⟩ ∧ b2 < w.heap.size ∧ w.cell? ⟨b2, off2 + q, none⟩ = some (.int .i64 z)) := Lib.hid fun q hq => by
    obtain ⟨CA', cc', hcv, _, hcell⟩ := hC
    simp only [Value.slice.injEq] at hcv
    obtain ⟨rfl, _, rfl⟩ := hcv
    obtain ⟨b2, off2, h1, h2, h3⟩ := hcell (by omega)
    exact ⟨_, b2, off2, h1, h2, h3 q hq⟩
  have HN := Lib.hid hN
  rw [hN] at HI hl ⊢
  rw [hcn] at HC hzl ⊢
  clear hk hT hT10 hI hC hN hcn
  go_enter Tryz.func6, Tryz.ntmps6
  go_wp2_with fail
  refine CK.out.mono ?_
  clear CK
  rintro e w1 ⟨rfl, hB1⟩
  have HB1 := Lib.hid hB1
  clear hB1
  go_wp2_with fail
  refine (new_dk 268435456 (by decide) w _ HB1.out).mono ?_
  rintro e w2 ⟨db, rfl, hD⟩
  have CO := Lib.hid (start_calls (room := 200) hD (by decide))
  clear hD
  go_wp2_with fail
  refine CO.out.mono ?_
  clear CO
  rintro e w3 ⟨lb, rfl, Fr0, hL0⟩
  have HL0 := Lib.hid hL0
  clear hL0
  go_wp2_with fail
  go_loopw [9, 10] (fun kv iv wr => ∃ (m : Nat) (K : List (List Nat)) (kA : Option Addr) (kn kc : Nat), iv = .int .i64 m ∧ m ≤ 40 ∧ m ≤ N ∧ kv = .slice kA kn kc ∧ K.length = kn ∧ kn ≤ m ∧ Hid (∃ Fr, LgK logP 200 Fr w lb db 268435456 wr K m ∧ Rowy w wr Fr (.slice kA kn kc) K)) (fun _ iv _ => 40 - (intOf iv).toNat)
  case atStart => exact ⟨0, [], none, 0, 0, rfl, by omega, Nat.zero_le _, rfl, rfl, Nat.le_refl _, Lib.hid ⟨Fr0, HL0.out, Rowy.nil _ _ _⟩⟩
  case round =>
    obtain ⟨m, K, kA, kn, kc, rfl, hm40, hmN, rfl, hkn, hknm, HK⟩ := hrel
    by_cases hgo : m < N ∧ m < 40
    · obtain ⟨b, off, rfl, hb, hcs⟩ := HI.out.cells (by omega)
      obtain ⟨tv, hck, hIk⟩ := hcs m (by omega)
      obtain ⟨Fr, hL, hR⟩ := HK.out
      obtain ⟨tA, tc, rfl⟩ := hIk.form
      obtain ⟨bs, hbs⟩ : ∃ bs, bss.getD m [] = bs := ⟨_, rfl⟩
      rw [hbs] at hIk hck
      obtain ⟨tn, htn⟩ : ∃ n, bs.length = n := ⟨_, rfl⟩
      rw [htn] at hck hIk
      have hckr := (hL.low.cell (p := ⟨b, off + m, none⟩) hb).trans hck
      have hmI : (m : Int) < (N : Int) := by omega
      have hm4 : (m : Int) < 40 := by omega
      have hm0 : 0 ≤ (m : Int) := by omega
      have hmn : m < N := hgo.1
      by_cases hlen : bs.length ≤ 65536
      · have CA := Lib.hid (hL.append_calls hR logP_size logP_right HT10.out HCRC.out (by omega) (by omega) (by decide) (by decide) (.slice tA tn tc) bs hIk hlen)
        have HCK := Lib.hid hck
        have HIK := Lib.hid hIk
        clear hcs hL hR hck hIk hbs htn HK hlen
        go_wp2_with fail
        refine CA.out.mono ?_
        clear CA
        rintro e Z ⟨rfl, Fr2, hL2, hR2⟩
        have hckz := (hL2.low.cell (p := ⟨b, off + m, none⟩) hb).trans HCK.out
        obtain ⟨A3, c3, W3, hrun, Fr3, hL3, hR3⟩ := push_row hL2 hR2 (.slice tA tn tc) bs HIK.out (by omega) 38
        rw [hkn] at hrun hR3
        have HRUN := Lib.hid hrun
        have HK3 : Hid (∃ Fr, LgK logP 200 Fr w lb db 268435456 W3 (K ++ [bs]) (m + 1) ∧ Rowy w W3 Fr (.slice A3 (kn + 1) c3) (K ++ [bs])) := Lib.hid ⟨Fr3, hL3, hR3⟩
        clear hL2 hR2 hrun hL3 hR3 hckr HCK HIK
        go_wp2_with (at_builtin; refine wpList_append_ran rfl _ _ _ rfl rfl rfl HRUN.out ?_)
        go_roundw
        case rel => exact ⟨m + 1, K ++ [bs], A3, kn + 1, c3, by go_num, by omega, by omega, rfl, by rw [List.length_append, hkn]; rfl, by omega, HK3⟩
        case measure => simp [intOf]; omega
      · have CA := Lib.hid (hL.append_long HCRC.out (.slice tA tn tc) bs hIk hlen)
        have HKK := Lib.hid (And.intro hL hR)
        clear hcs hL hR hck hIk hbs htn HK hlen
        go_wp2_with fail
        refine CA.out.mono ?_
        clear CA
        rintro e Z ⟨rfl, hB⟩
        have HK3 : Hid (∃ Fr, LgK logP 200 Fr w lb db 268435456 Z K (m + 1) ∧ Rowy w Z Fr (.slice kA kn kc) K) := Lib.hid ⟨Fr, (HKK.out.1.below hB).more (by omega), HKK.out.2.below HKK.out.1 hB⟩
        clear hB HKK hckr
        go_wp2_with fail
        go_roundw
        case rel => exact ⟨m + 1, K, kA, kn, kc, by go_num, by omega, by omega, rfl, hkn, by omega, HK3⟩
        case measure => simp [intOf]; omega
    · have hx : ¬ (m : Int) < (N : Int) ∨ ((m : Int) < (N : Int) ∧ ¬ (m : Int) < 40) := by omega
      obtain ⟨Fr, hL, hR⟩ := HK.out
      have CS := Lib.hid (hL.sync_calls hR logP_size HT10.out (by omega))
      clear hL hR HK hgo
      rcases hx with hx | ⟨hx, hy⟩
      all_goals
        go_wp2_with fail
        refine CS.out.mono ?_
        clear CS
        rintro e W3 ⟨rfl, hB3, hR3, hL3⟩
        have HS3 : Hid (Below w.heap.size w W3 ∧ Rowy w W3 Fr (.slice kA kn kc) K ∧ (K ≠ [] → LgL logP 200 Fr w lb db W3 K 0 0)) := Lib.hid ⟨hB3, hR3, hL3⟩
        clear hB3 hR3 hL3
        go_wp2_with fail
        by_cases hk0 : kn = 0
        · subst hk0
          have hc0 : ¬ (0 : Int) < (cn : Int) ∨ (0 : Int) < (cn : Int) := by omega
          go_loopw [13] (fun i wr => i = .int .i64 0 ∧ wr = W3) (fun _ _ => 0)
          case atStart => exact ⟨rfl, rfl⟩
          case round =>
            obtain ⟨rfl, rfl⟩ := hrel
            rcases hc0 with hc0 | hc0
            all_goals
              go_wp2_with fail
              go_ret
              exact ⟨rfl, HS3.out.1⟩
        · have hKne : K ≠ [] := by rintro rfl; exact hk0 hkn.symm
          have hR3 := HS3.out.2.1
          have hL3 := HS3.out.2.2 hKne
          have hkI : (0 : Int) < (kn : Int) := by omega
          have hkI0 : ¬ (kn : Int) = 0 := by omega
          have hku : IntKind.u64.wrap (kn : Int) = (kn : Int) := by exact IntWalk.u64_in _ (by omega)
          go_loopw [13] (fun iv wr => ∃ (q F : Nat), iv = .int .i64 q ∧ q ≤ 10 ∧ q ≤ cn ∧ F ≤ kn ∧ Hid (LgL logP 200 Fr w lb db wr K F q ∧ Rowy w wr Fr (.slice kA kn kc) K)) (fun iv _ => 10 - (intOf iv).toNat)
          case atStart => exact ⟨0, 0, rfl, by omega, Nat.zero_le _, Nat.zero_le _, Lib.hid ⟨hL3, hR3⟩⟩
          case round =>
            obtain ⟨q, F, rfl, hq10, hqc, hFk, HK⟩ := hrel
            by_cases hgo : q < cn ∧ q < 10
            · have hqI : (q : Int) < (cn : Int) := by omega
              have hqI2 : (q : Int) < 10 := by omega
              have hq0 : 0 ≤ (q : Int) := by omega
              obtain ⟨z, b2, off2, rfl, hb2, hz⟩ := HC.out q hgo.1
              obtain ⟨a, hak, ha⟩ := place_in z kn (by omega) (by omega)
              have hcr := (HK.out.1.low.cell (p := ⟨b2, off2 + q, none⟩) hb2).trans hz
              have CF := HK.out.1.first_calls (by omega)
              have CF := Lib.hid CF
              clear hz hb2 hgo hL3 hR3 HS3
              go_wp2_with fail
              refine CF.out.mono ?_
              clear CF
              rintro e W4 ⟨rfl, hB4⟩
              have HK4 : Hid (LgL logP 200 Fr w lb db W4 K F q ∧ Rowy w W4 Fr (.slice kA kn kc) K) := Lib.hid ⟨HK.out.1.below hB4, HK.out.2.belowL HK.out.1 hB4⟩
              clear hB4 HK hcr
              by_cases hlt : a < F
              · have hltI : (a : Int) < (F : Int) := by omega
                have HK5 : Hid (LgL logP 200 Fr w lb db W4 K F (q + 1) ∧ Rowy w W4 Fr (.slice kA kn kc) K) := Lib.hid ⟨HK4.out.1.more, HK4.out.2⟩
                clear HK4
                go_wp2_with fail
                go_roundw
                case rel => exact ⟨q + 1, F, by go_num, by omega, by omega, hFk, HK5⟩
                case measure => simp [intOf]; omega
              · have hltI : ¬ (a : Int) < (F : Int) := by omega
                have CC := Lib.hid (HK4.out.1.cut_calls HK4.out.2 logP_size HT10.out (by omega) (by omega) a (by omega) (by omega))
                clear HK4
                go_wp2_with fail
                refine CC.out.mono ?_
                clear CC
                rintro e W5 ⟨rfl, F', hF', hL5, hR5⟩
                have CF := Lib.hid (hL5.first_calls (by omega))
                have HK5 := Lib.hid (And.intro hL5 hR5)
                have hFa : ¬ (a : Int) < (F' : Int) := by omega
                clear hL5 hR5
                go_wp2_with fail
                refine CF.out.mono ?_
                clear CF
                rintro e W6 ⟨rfl, hB6⟩
                have HK6 : Hid (LgL logP 200 Fr w lb db W6 K F' (q + 1) ∧ Rowy w W6 Fr (.slice kA kn kc) K) := Lib.hid ⟨HK5.out.1.below hB6, HK5.out.2.belowL HK5.out.1 hB6⟩
                have CN := HK6.out.1.next_calls (by omega)
                rw [hkn] at CN
                have CN := Lib.hid CN
                clear hB6 HK5
                go_wp2_with fail
                refine CN.out.mono ?_
                clear CN
                rintro e W7 ⟨rfl, hB7⟩
                have HK7 : Hid (LgL logP 200 Fr w lb db W7 K F' (q + 1) ∧ Rowy w W7 Fr (.slice kA kn kc) K) := Lib.hid ⟨HK6.out.1.below hB7, HK6.out.2.belowL HK6.out.1 hB7⟩
                have CF := Lib.hid (HK7.out.1.first_calls (by omega))
                clear hB7 HK6
                go_wp2_with fail
                refine CF.out.mono ?_
                clear CF
                rintro e W8 ⟨rfl, hB8⟩
                have HK8 : Hid (LgL logP 200 Fr w lb db W8 K F' (q + 1) ∧ Rowy w W8 Fr (.slice kA kn kc) K) := Lib.hid ⟨HK7.out.1.below hB8, HK7.out.2.belowL HK7.out.1 hB8⟩
                clear hB8 HK7
                go_wp2_with fail
                go_loopw [15] (fun iv wr => ∃ k : Nat, iv = .int .i64 k ∧ F' ≤ k ∧ k ≤ kn ∧ Hid (LgL logP 200 Fr w lb db wr K F' (q + 1) ∧ Rowy w wr Fr (.slice kA kn kc) K)) (fun iv _ => kn - (intOf iv).toNat)
                case atStart => exact ⟨F', rfl, Nat.le_refl _, by omega, HK8⟩
                case round =>
                  clear HK8
                  obtain ⟨k, rfl, hFk', hkk, HK⟩ := hrel
                  by_cases hkn' : k < kn
                  · obtain ⟨g, bs, xA, xc, rfl, hFg, hcell, hKk, hbx⟩ := HK.out.2.at hkn k hkn'
                    have CR := Lib.hid (HK.out.1.read_calls (by omega) k hFk' (by omega) bs hKk hbx.lt)
                    have HX := Lib.hid (And.intro hFg (And.intro hcell hbx))
                    have hkI1 : (k : Int) < (kn : Int) := by omega
                    have hkI2 : 0 ≤ (k : Int) := by omega
                    obtain ⟨bn, hbn⟩ : ∃ n, bs.length = n := ⟨_, rfl⟩
                    rw [hbn] at CR HX
                    clear hFg hcell hKk hbx
                    go_wp2_with fail
                    refine CR.out.mono ?_
                    clear CR
                    rintro e W9 ⟨⟨rA, rc, rfl, hO⟩, hB9⟩
                    obtain ⟨hFg, hcell, hbx⟩ := HX.out
                    have HK9 : Hid (LgL logP 200 Fr w lb db W9 K F' (q + 1) ∧ Rowy w W9 Fr (.slice (some ⟨g, 0, none⟩) kn kc) K) := Lib.hid ⟨HK.out.1.below hB9, HK.out.2.belowL HK.out.1 hB9⟩
                    have hck9 := (hB9.cell (p := ⟨g, k, none⟩) (HK.out.1.in hFg)).trans hcell
                    have hcv := fun x => run_string_bytes (P := Tryz.prog) (W9.drewN x) Tryz.underlying29 Tryz.underlying5 Tryz.underlying9 (show Bytes W9.heap.size (W9.drewN x) _ _ from hO)
                    have hcw := fun x => run_string_bytes (P := Tryz.prog) (W9.drewN x) Tryz.underlying29 Tryz.underlying5 Tryz.underlying9 (show Bytes w.heap.size (W9.drewN x) _ _ from hbx.below HK9.out.1.low)
                    obtain ⟨S, hS⟩ : ∃ S, str bs = S := ⟨_, rfl⟩
                    rw [hS] at hcv hcw
                    have hckq : ∀ x, (W9.drewN x).cell? ⟨g, k, none⟩ = some (.slice xA bn xc) := fun _ => hck9
                    clear hO hB9 HX hFg hcell hbx HK hS hck9 hbn
                    go_wp2_with fail
                    go_quiet (fail)
                    have HK10 : Hid (LgL logP 200 Fr w lb db (W9.drewN nq) K F' (q + 1) ∧ Rowy w (W9.drewN nq) Fr (.slice (some ⟨g, 0, none⟩) kn kc) K) := Lib.hid ⟨HK9.out.1.below (below_drewN' (Below.refl _ _) nq), HK9.out.2.belowL HK9.out.1 (below_drewN' (Below.refl _ _) nq)⟩
                    clear HK9 hcv hcw hckq
                    generalize W9.drewN nq = we at HK10 ⊢
                    go_wp2_with fail
                    go_roundw
                    case rel => exact ⟨k + 1, by go_num, by omega, by omega, HK10⟩
                    case measure => simp [intOf]; omega
                  · have hkI' : ¬ (k : Int) < (kn : Int) := by omega
                    go_wp2_with fail
                    go_roundw
                    case rel => exact ⟨q + 1, F', by go_num, by omega, by omega, by omega, HK⟩
                    case measure => simp [intOf]; omega
            · have hx2 : ¬ (q : Int) < (cn : Int) ∨ ((q : Int) < (cn : Int) ∧ ¬ (q : Int) < 10) := by omega
              have hlow : Below w.heap.size w wr := HK.out.1.low
              have HLOW := Lib.hid hlow
              clear HK hlow hgo
              rcases hx2 with hx2 | ⟨hx2, hy2⟩
              all_goals
                go_wp2_with fail
                go_ret
                exact ⟨rfl, HLOW.out⟩

end Go.Proofs.YtnhkpemajknfnaaGreatDoor.Seglog
