/-
  Put together out of texts of one chain: what they hold stands ahead of each.
-/
import Derived.Test.YtnjjjalenhbicaaGDiskStands09
import Derived.Test.YtnjjjalenhbicaaProg
import Derived.Shelf.SlSortCmp.WholeK
import Derived.Shelf.SlicesG.Cmp
import Derived.Shelf.Strconv.Clone
import Derived.Ground.SlsfProg
import Derived.Ground.SlgcProg
import Derived.Ground.NamesProg
import Derived.Test.YtnjjjalenhbicaaGDiskStands08
/-
  A disk in memory: its files, each in blocks of its own; what a call leaves of everything else.
-/
namespace Go.Proofs.Ytnjjjalenhbicaa.Disk
open Go Go.RowKit Go.Proofs.Ytnjjjalenhbicaa.Law

/-- Whose a block is: the disk's own, a file's, or somebody else's. -/
abbrev Owner := Nat → Option (Option ByteArray)

/-- A file in memory. -/
def FileAt (W : World) (O : Owner) (base : Nat) (s : ByteArray) (fb : Nat) (now safe : Option (List Nat)) (cs : List Chg) : Prop :=
  ∃ sh nv sv cv, FB W fb now.isSome nv safe.isSome sv sh cv ∧ Buf W base 5 nv (now.getD []) ∧ Buf W base 5 sv (safe.getD []) ∧ Share sh nv sv (now.getD []).length (safe.getD []).length ∧ OwnC W base cv cs ∧
    O fb = some (some s) ∧ ∀ g, nv.ownBlock = some g ∨ sv.ownBlock = some g ∨ cv.ownBlock = some g → O g = some (some s)

theorem FileAt.keep {W W' : World} {O O' : Owner} {base fb : Nat} {s : ByteArray} {now safe : Option (List Nat)} {cs : List Chg} (h : FileAt W O base s fb now safe cs)
    (hk : ∀ k, k < W.heap.size → O k = some (some s) → W'.heap[k]? = W.heap[k]? ∧ O' k = some (some s)) : FileAt W' O' base s fb now safe cs := by
  obtain ⟨sh, nv, sv, cv, h1, h2, h3, h4, h5, h6, h7⟩ := h
  refine ⟨sh, nv, sv, cv, ?_, h2.keep fun g hg => (hk g (h2.own g hg).2 (h7 g (.inl hg))).1, h3.keep fun g hg => (hk g (h3.own g hg).2 (h7 g (.inr (.inl hg)))).1, h4, h5.keep fun g hg => (hk g (h5.own g hg).2 (h7 g (.inr (.inr hg)))).1, (hk fb h1.lt h6).2, ?_⟩
  · exact (hk fb h1.lt h6).1.trans h1
  · rintro g (hg | hg | hg)
    · exact (hk g (h2.own g hg).2 (h7 g (.inl hg))).2
    · exact (hk g (h3.own g hg).2 (h7 g (.inr (.inl hg)))).2
    · exact (hk g (h5.own g hg).2 (h7 g (.inr (.inr hg)))).2

/-- The disk's own blocks. -/
structure Core (W : World) (O : Owner) (db mb : Nat) (D : DS) (F : ByteArray → Option Nat) : Prop where
  disk : DB W db mb (D.room : Int) (D.used : Int) (D.made : Int) D.fails
  map : ∃ n, n ≤ D.made ∧ MapP Try.prog 9 W mb n F
  odb : O db = some none
  omb : O mb = some none
  dom : ∀ s, Short s → ((F s).isSome ↔ s ∈ D.names)
  lt : ∀ k, O k ≠ none → k < W.heap.size

/-- A disk in memory. -/
def DiskAt (W : World) (O : Owner) (db : Nat) (D : DS) : Prop :=
  ∃ mb F, Core W O db mb D F ∧ ∀ s ∈ D.names, ∃ fb, F s = some fb ∧ FileAt W O (db + 1) s fb (D.now s) (D.safe s) (mine s D.chs)

/-- What a call leaves: what isn't the disk's lies as it lay, and isn't the disk's now. -/
structure Past (w : World) (O : Owner) (W : World) (O' : Owner) : Prop where
  os : W.os = w.os
  tape : W.tape = w.tape
  output : W.output = w.output
  size : w.heap.size ≤ W.heap.size
  same : ∀ k, k < w.heap.size → O k = none → W.heap[k]? = w.heap[k]?
  none : ∀ k, k < w.heap.size → O k = Option.none → O' k = Option.none

theorem Past.refl (w : World) (O : Owner) : Past w O w O := ⟨rfl, rfl, rfl, Nat.le_refl _, fun _ _ _ => rfl, fun _ _ h => h⟩
theorem Past.trans {a b c : World} {O P Q : Owner} (h : Past a O b P) (k : Past b P c Q) : Past a O c Q :=
  ⟨k.os.trans h.os, k.tape.trans h.tape, k.output.trans h.output, Nat.le_trans h.size k.size, fun j hj ho => (k.same j (Nat.lt_of_lt_of_le hj h.size) (h.none j hj ho)).trans (h.same j hj ho), fun j hj ho => k.none j (Nat.lt_of_lt_of_le hj h.size) (h.none j hj ho)⟩
theorem Past.of_below {w W : World} (O : Owner) (h : Below w.heap.size w W) : Past w O W O := ⟨h.os, h.tape, h.output, h.size, fun k hk _ => h.block k hk, fun _ _ h => h⟩
theorem Past.drew {w W : World} {O O' : Owner} (h : Past w O W O') : Past w O W.drew O' := ⟨h.os, h.tape, h.output, h.size, h.same, h.none⟩
/-- All below a block that no disk has lies as it lay. -/
theorem Past.below {w W : World} {O O' : Owner} {n : Nat} (h : Past w O W O') (hn : ∀ k, k < n → O k = Option.none) (hs : n ≤ w.heap.size) : Below n w W := ⟨h.os, h.tape, h.output, h.size, fun k hk => h.same k (Nat.lt_of_lt_of_le hk hs) (hn k hk)⟩
theorem Past.low {w W : World} {O O' : Owner} {n : Nat} (h : Past w O W O') (hn : ∀ k, k < n → O k = Option.none) (hs : n ≤ w.heap.size) : ∀ k, k < n → O' k = Option.none := fun k hk => h.none k (Nat.lt_of_lt_of_le hk hs) (hn k hk)

theorem DB.at {W W' : World} {db mb : Nat} {room used made : Int} {fails : Bool} (h : DB W db mb room used made fails) (hb : W'.heap[db]? = W.heap[db]?) : DB W' db mb room used made fails := hb.trans h

/-- The disk in a world that leaves all of its blocks. -/
theorem Core.keep {W W' : World} {O : Owner} {db mb : Nat} {D : DS} {F : ByteArray → Option Nat} (h : Core W O db mb D F) (hs : W.heap.size ≤ W'.heap.size) (hk : ∀ k, k < W.heap.size → O k ≠ none → W'.heap[k]? = W.heap[k]?) : Core W' O db mb D F := by
  obtain ⟨n, hn, hm⟩ := h.map
  exact ⟨h.disk.at (hk _ h.disk.lt (by rw [h.odb]; simp)), ⟨n, hn, hm.at (hk _ hm.lt (by rw [h.omb]; simp))⟩, h.odb, h.omb, h.dom, fun k hk => Nat.lt_of_lt_of_le (h.lt k hk) hs⟩
theorem DiskAt.keep {W W' : World} {O : Owner} {db : Nat} {D : DS} (h : DiskAt W O db D) (hs : W.heap.size ≤ W'.heap.size) (hk : ∀ k, k < W.heap.size → O k ≠ none → W'.heap[k]? = W.heap[k]?) : DiskAt W' O db D := by
  obtain ⟨mb, F, h1, h2⟩ := h
  refine ⟨mb, F, h1.keep hs hk, fun s hs' => ?_⟩
  obtain ⟨fb, h3, h4⟩ := h2 s hs'
  exact ⟨fb, h3, h4.keep fun k hk' ho => ⟨hk k hk' (by rw [ho]; simp), ho⟩⟩
theorem DiskAt.below {W W' : World} {O : Owner} {db : Nat} {D : DS} (h : DiskAt W O db D) (hB : Below W.heap.size W W') : DiskAt W' O db D := h.keep hB.size fun k hk _ => hB.block k hk
theorem DiskAt.lt {W : World} {O : Owner} {db : Nat} {D : DS} (h : DiskAt W O db D) : ∀ k, O k ≠ none → k < W.heap.size := by
  obtain ⟨mb, F, h1, _⟩ := h; exact h1.lt

/-- The blocks from n on to N are a file's. -/
def own (O : Owner) (n N : Nat) (s : ByteArray) : Owner := fun k => if n ≤ k ∧ k < N then some (some s) else O k
theorem own_old {O : Owner} {n N : Nat} {s : ByteArray} {k : Nat} (h : k < n) : own O n N s k = O k := if_neg (by omega)
theorem own_new {O : Owner} {n N : Nat} {s : ByteArray} {k : Nat} (h : n ≤ k) (h2 : k < N) : own O n N s k = some (some s) := if_pos ⟨h, h2⟩

/-- A call that turned one file: the disk behind it. -/
theorem DiskAt.turned {w W : World} {O : Owner} {db mb fb : Nat} {D D' : DS} {F F' : ByteArray → Option Nat} {s : ByteArray} (hc : Core w O db mb D F) (hf : ∀ x ∈ D.names, x ≠ s → ∃ fb, F x = some fb ∧ FileAt w O (db + 1) x fb (D.now x) (D.safe x) (mine x D.chs))
    (hdisk : DB W db mb (D'.room : Int) (D'.used : Int) (D'.made : Int) D'.fails) (hmap : ∃ n, n ≤ D'.made ∧ MapP Try.prog 9 W mb n F') (hdom : ∀ x, Short x → ((F' x).isSome ↔ x ∈ D'.names))
    (hsize : w.heap.size ≤ W.heap.size) (hold : ∀ k, k < w.heap.size → (∀ x, O k = some x → ∃ y, x = some y ∧ y ≠ s) → W.heap[k]? = w.heap[k]?)
    (hsame : ∀ x ∈ D'.names, x ≠ s → x ∈ D.names ∧ F' x = F x ∧ D'.now x = D.now x ∧ D'.safe x = D.safe x ∧ mine x D'.chs = mine x D.chs)
    (hfile : s ∈ D'.names → F' s = some fb ∧ FileAt W (own O w.heap.size W.heap.size s) (db + 1) s fb (D'.now s) (D'.safe s) (mine s D'.chs))
    (hos : W.os = w.os) (htape : W.tape = w.tape) (hout : W.output = w.output) :
    DiskAt W (own O w.heap.size W.heap.size s) db D' ∧ Past w O W (own O w.heap.size W.heap.size s) := by
  have hdb := hc.disk.lt
  have hmb : mb < w.heap.size := hc.lt mb (by rw [hc.omb]; simp)
  refine ⟨⟨mb, F', ⟨hdisk, hmap, (own_old hdb).trans hc.odb, (own_old hmb).trans hc.omb, hdom, fun k hk => ?_⟩, fun x hx => ?_⟩, ⟨hos, htape, hout, hsize, fun k hk ho => hold k hk (fun x hx => by rw [ho] at hx; cases hx), fun k hk ho => (own_old hk).trans ho⟩⟩
  · by_cases h : w.heap.size ≤ k ∧ k < W.heap.size
    · exact h.2
    · have : own O w.heap.size W.heap.size s k = O k := if_neg h
      rw [this] at hk
      exact Nat.lt_of_lt_of_le (hc.lt k hk) hsize
  · by_cases hxs : x = s
    · subst hxs
      exact ⟨fb, hfile hx⟩
    · obtain ⟨h1, h2, h3, h4, h5⟩ := hsame x hx hxs
      obtain ⟨fx, h6, h7⟩ := hf x h1 hxs
      rw [h2, h3, h4, h5]
      refine ⟨fx, h6, h7.keep fun k hk ho => ⟨hold k hk fun y hy => ?_, (own_old hk).trans ho⟩⟩
      rw [ho] at hy
      exact ⟨x, (Option.some.inj hy).symm, hxs⟩

/-- A new disk. -/
theorem DiskAt.made {w W : World} {room : Nat} {db mb : Nat} (h : DB W db mb (room : Int) 0 0 false) (hm : MapP Try.prog 9 W mb 0 (fun _ => none)) (hdb : w.heap.size ≤ db) (hmb : w.heap.size ≤ mb) :
    DiskAt W (fun k => if k = db ∨ k = mb then some none else none) db (DS.fresh room) := by
  refine ⟨mb, fun _ => none, ⟨h, ⟨0, Nat.le_refl _, hm⟩, if_pos (.inl rfl), if_pos (.inr rfl), fun s _ => by simp [DS.fresh], fun k hk => ?_⟩, fun s hs => by simp [DS.fresh] at hs⟩
  by_cases hk2 : k = db ∨ k = mb
  · rcases hk2 with rfl | rfl
    · exact h.lt
    · exact hm.lt
  · rw [if_neg hk2] at hk; exact absurd rfl hk

end Go.Proofs.Ytnjjjalenhbicaa.Disk

/-
  Contracts of the shelf at this program: the tables of numbers, and each body as the contract's own. No conditions.
-/
namespace Go.Proofs
open Go.Shelf
def Try.cloneStr_ren : Go.Shelf.Ren := ⟨fun | 316 => 63 | n => n, fun | 9 => 9 | 3 => 3 | 4 => 4 | 37 => 34 | 0 => 0 | 127 => 114 | 5 => 5 | n => n, fun | n => n⟩
theorem Try.cloneStr : Go.Proofs.LaysM.n316 Try.prog Try.cloneStr_ren := {
  mixed := by kernel_rfl
  f316 := Try.func63.trans (congrArg some (by kernel_rfl))
  t0 := Try.underlying0
  a0 := Try.isAgg0
  z0 := Try.sizeOf0
  v0 := Try.zeroValue0
  t3 := Try.underlying3
  a3 := Try.isAgg3
  z3 := Try.sizeOf3
  v3 := Try.zeroValue3
  t4 := Try.underlying4
  a4 := Try.isAgg4
  z4 := Try.sizeOf4
  v4 := Try.zeroValue4
  t9 := Try.underlying9
  a9 := Try.isAgg9
  z9 := Try.sizeOf9
  v9 := Try.zeroValue9
  t37 := Try.underlying34
  a37 := Try.isAgg34
  z37 := Try.sizeOf34
  v37 := Try.zeroValue34
  t127 := Try.underlying114
  a127 := Try.isAgg114
  z127 := Try.sizeOf114
  v127 := Try.zeroValue114
  t5 := Try.underlying5
  a5 := Try.isAgg5
  z5 := Try.sizeOf5
  v5 := Try.zeroValue5
  i0 := by kernel_rfl
  i3 := by kernel_rfl
  i4 := by kernel_rfl
  i5 := by kernel_rfl
  i9 := by kernel_rfl
  i37 := by kernel_rfl
  i127 := by kernel_rfl }
def Try.sortOfFile_ren : Go.Shelf.Ren := ⟨fun | 6 => 58 | 15 => 66 | 14 => 67 | 28 => 78 | 29 => 79 | 20 => 80 | 21 => 81 | 22 => 82 | 23 => 83 | 24 => 84 | 25 => 85 | 26 => 86 | 27 => 87 | 46 => 94 | 47 => 89 | 48 => 90 | 49 => 95 | 50 => 96 | 57 => 98 | n => n, fun | 22 => 102 | 24 => 104 | 25 => 107 | 3 => 3 | 39 => 112 | 0 => 0 | 53 => 125 | 55 => 127 | 4 => 4 | 46 => 117 | 45 => 116 | 50 => 122 | 5 => 5 | 9 => 9 | 66 => 133 | 70 => 137 | 76 => 141 | 77 => 142 | n => n, fun | n => n⟩
theorem Try.sortOfFile : Go.Proofs.SlLaysF0.n6 Try.prog Try.sortOfFile_ren := {
  mixed := by kernel_rfl
  f6 := ⟨Try.f58.name, by decide, Try.func58.trans (congrArg some (by kernel_rfl))⟩
  f14 := ⟨Try.f67.name, by decide, Try.func67.trans (congrArg some (by kernel_rfl))⟩
  f15 := Try.func66.trans (congrArg some (by kernel_rfl))
  f20 := ⟨Try.f80.name, by decide, Try.func80.trans (congrArg some (by kernel_rfl))⟩
  f21 := ⟨Try.f81.name, by decide, Try.func81.trans (congrArg some (by kernel_rfl))⟩
  f22 := ⟨Try.f82.name, by decide, Try.func82.trans (congrArg some (by kernel_rfl))⟩
  f23 := ⟨Try.f83.name, by decide, Try.func83.trans (congrArg some (by kernel_rfl))⟩
  f24 := ⟨Try.f84.name, by decide, Try.func84.trans (congrArg some (by kernel_rfl))⟩
  f25 := ⟨Try.f85.name, by decide, Try.func85.trans (congrArg some (by kernel_rfl))⟩
  f26 := ⟨Try.f86.name, by decide, Try.func86.trans (congrArg some (by kernel_rfl))⟩
  f27 := ⟨Try.f87.name, by decide, Try.func87.trans (congrArg some (by kernel_rfl))⟩
  f28 := Try.func78.trans (congrArg some (by kernel_rfl))
  f29 := Try.func79.trans (congrArg some (by kernel_rfl))
  f46 := ⟨Try.f94.name, by decide, Try.func94.trans (congrArg some (by kernel_rfl))⟩
  f47 := Try.func89.trans (congrArg some (by kernel_rfl))
  f48 := Try.func90.trans (congrArg some (by kernel_rfl))
  f49 := ⟨Try.f95.name, by decide, Try.func95.trans (congrArg some (by kernel_rfl))⟩
  f50 := ⟨Try.f96.name, by decide, Try.func96.trans (congrArg some (by kernel_rfl))⟩
  f57 := ⟨Try.f98.name, by decide, Try.func98.trans (congrArg some (by kernel_rfl))⟩
  t0 := Try.underlying0
  a0 := Try.isAgg0
  z0 := Try.sizeOf0
  v0 := Try.zeroValue0
  t3 := Try.underlying3
  a3 := Try.isAgg3
  z3 := Try.sizeOf3
  v3 := Try.zeroValue3
  t4 := Try.underlying4
  a4 := Try.isAgg4
  z4 := Try.sizeOf4
  v4 := Try.zeroValue4
  t5 := Try.underlying5
  a5 := Try.isAgg5
  z5 := Try.sizeOf5
  v5 := Try.zeroValue5
  t9 := Try.underlying9
  a9 := Try.isAgg9
  z9 := Try.sizeOf9
  v9 := Try.zeroValue9
  t22 := Try.underlying102
  a22 := Try.isAgg102
  z22 := Try.sizeOf102
  v22 := Try.zeroValue102
  t25 := Try.underlying107
  a25 := Try.isAgg107
  z25 := Try.sizeOf107
  v25 := Try.zeroValue107
  t39 := Try.underlying112
  a39 := Try.isAgg112
  z39 := Try.sizeOf112
  v39 := Try.zeroValue112
  t45 := Try.underlying116
  a45 := Try.isAgg116
  z45 := Try.sizeOf116
  v45 := Try.zeroValue116
  t46 := Try.underlying117
  a46 := Try.isAgg117
  z46 := Try.sizeOf117
  v46 := Try.zeroValue117
  t50 := Try.underlying122
  a50 := Try.isAgg122
  z50 := Try.sizeOf122
  v50 := Try.zeroValue122
  t53 := Try.underlying125
  a53 := Try.isAgg125
  z53 := Try.sizeOf125
  v53 := Try.zeroValue125
  t55 := Try.underlying127
  a55 := Try.isAgg127
  z55 := Try.sizeOf127
  v55 := Try.zeroValue127
  t66 := Try.underlying133
  a66 := Try.isAgg133
  z66 := Try.sizeOf133
  v66 := Try.zeroValue133
  t70 := Try.underlying137
  a70 := Try.isAgg137
  z70 := Try.sizeOf137
  v70 := Try.zeroValue137
  t76 := Try.underlying141
  a76 := Try.isAgg141
  z76 := Try.sizeOf141
  v76 := Try.zeroValue141
  t77 := Try.underlying142
  a77 := Try.isAgg142
  z77 := Try.sizeOf142
  v77 := Try.zeroValue142 }
def Try.cmpInt_ren : Go.Shelf.Ren := ⟨fun | 5 => 60 | 7 => 68 | n => n, fun | 22 => 3 | 3 => 3 | 4 => 4 | n => n, fun | n => n⟩
theorem Try.cmpInt : Go.Proofs.SlLaysC2.n5 Try.prog Try.cmpInt_ren := {
  mixed := by kernel_rfl
  f5 := ⟨Try.f60.name, by decide, Try.func60.trans (congrArg some (by kernel_rfl))⟩
  f7 := ⟨Try.f68.name, by decide, Try.func68.trans (congrArg some (by kernel_rfl))⟩
  t3 := Try.underlying3
  a3 := Try.isAgg3
  z3 := Try.sizeOf3
  v3 := Try.zeroValue3
  t4 := Try.underlying4
  a4 := Try.isAgg4
  z4 := Try.sizeOf4
  v4 := Try.zeroValue4
  t22 := Try.underlying3
  a22 := Try.isAgg3
  z22 := Try.sizeOf3
  v22 := Try.zeroValue3 }
end Go.Proofs

/-
  Contracts off the shelf that disk's functions use: a string's clone; a row of changes sorted by number.
-/
namespace Go.Proofs.Ytnjjjalenhbicaa.Disk
open Go Go.RowKit Go.Proofs.Ytnjjjalenhbicaa.Law Go.Shelf Go.Lib Go.Sort

set_option maxRecDepth 100000 in
set_option maxHeartbeats 1000000 in
theorem cloneS_calls (s : ByteArray) (w : World) (h : s.size ≤ 281474976710656) : Calls Try.prog 46 #[.string s] w fun e W => e = .returned (.string s) ∧ Below w.heap.size w W := by
  have hcon := fun W => Any.stringslite_Clone Try.cloneStr s W h
  change ∀ W, Calls Try.prog 63 _ _ _ at hcon
  go_enter Try.func46, Try.ntmps46
  go_wp2_with (go_at_call 63; refine (hcon _).mono ?_; rintro e w' ⟨rfl, hB⟩)
  go_ret
  exact ⟨rfl, hB⟩

instance : Inhabited Chg := ⟨⟨0, 0, 0, ⟨#[]⟩⟩⟩

/-- A file and a change, as cells. -/
def encX (x : Nat × Chg) : List Value := [.pointer (some ⟨x.1, 0, none⟩), .int .i64 (x.2.n : Nat), .int .i64 (x.2.kind : Nat), .int .i64 (x.2.pos : Nat), .string x.2.s]
abbrev cmpX (x y : Nat × Chg) : Int := Lib.compareInt (x.2.n : Nat) (y.2.n : Nat)
theorem ltX (x y : Nat × Chg) : ltOf cmpX x y = decide (x.2.n < y.2.n) := by
  unfold ltOf cmpX Lib.compareInt
  by_cases h1 : x.2.n < y.2.n
  · simp [h1]
  · by_cases h2 : y.2.n < x.2.n <;> simp [h1, h2]
theorem swoX : SWO (ltOf cmpX) where
  irrefl x := by rw [ltX]; simp
  trans x y z h1 h2 := by rw [ltX] at *; simp at *; omega
  ntrans x y z h1 h2 := by rw [ltX] at *; simp at *; omega

set_option maxRecDepth 100000 in
set_option maxHeartbeats 1000000 in
theorem closureX (x y : Nat × Chg) (W : World) : Calls Try.prog 59 #[.agg (encX x).toArray, .agg (encX y).toArray] W fun e w' => e = .returned (.int .i64 (cmpX x y)) ∧ ∃ q os', w' = grow (W.drewN q) os' := by
  have hcon := fun W' => AnyG.cmp_Compare_int Try.cmpInt (x.2.n : Nat) (y.2.n : Nat) W'
  change ∀ W', Calls Try.prog 60 _ _ _ at hcon
  unfold cmpX
  generalize Lib.compareInt (x.2.n : Nat) (y.2.n : Nat) = r at hcon ⊢
  unfold encX
  go_enter Try.func59, Try.ntmps59
  go_wp2_with (go_at_call 60; refine (hcon _).mono ?_; rintro e w' ⟨rfl, rfl⟩)
  go_ret
  exact ⟨rfl, 0, _, by rw [alloc_eq_grow, alloc_eq_grow, grow_grow]; rfl⟩

theorem sortX_calls (blk off cap : Nat) (d : Array (Nat × Chg)) (w : World) (hH : HoldsK encX 5 w blk off d) (hblk : blk < w.heap.size) (hsz : d.size < 4611686018427387904) :
    Calls Try.prog 58 #[.slice (some ⟨blk, off, none⟩) d.size cap, .func (.func 59) #[] #[]] w fun e w' => e = .returned (.tuple #[]) ∧ ∃ d' n os, PermIn 0 d.size d d' ∧ SortedIn (ltOf cmpX) 0 d.size d' ∧ w' = sortWorldK encX 5 w blk off n d' os := by
  have eg : ∀ args w, (callFunc 59 args).run Try.prog w = .ok (.enter 59 args) w := enters_of Try.func59 (by kernel_rfl) rfl
  have hcon := AnyQ.slices_SortFunc Try.sortOfFile 5 Try.isAgg104 Try.sizeOf104 encX (fun _ => rfl) (fun x v hv => by simp [encX] at hv; rcases hv with rfl | rfl | rfl | rfl | rfl <;> rfl) cmpX swoX 59 #[] blk off cap d w eg (fun _ _ _ _ x y => closureX x y _) hH hblk hsz
  change Calls Try.prog 58 _ _ _ at hcon
  exact hcon

end Go.Proofs.Ytnjjjalenhbicaa.Disk
