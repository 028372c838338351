/-
  A disk in memory: its files, each in blocks of its own; what a call leaves of everything else.
-/
import Derived.Test.YtlmohcmnoddncaaDiskModel
namespace Go.Proofs.Ytlmohcmnoddncaa.Disk
open Go Go.RowKit Go.Proofs.Ytlmohcmnoddncaa.Law

/-- Whose a block is: the disk's own, a file's, or somebody else's. -/
abbrev Owner := Nat → Option (Option ByteArray)

/-- A file in memory. -/
def FileAt (W : World) (O : Owner) (base : Nat) (s : ByteArray) (fb : Nat) (now safe : Option (List Nat)) (cs : List Chg) : Prop :=
  ∃ sh nv sv cv, FB W fb now.isSome nv safe.isSome sv sh cv ∧ Buf W base 5 nv (now.getD []) ∧ Buf W base 5 sv (safe.getD []) ∧ Share sh nv sv (now.getD []).length (safe.getD []).length ∧ OwnC W base cv cs ∧
    O fb = some (some s) ∧ ∀ g, nv.ownBlock = some g ∨ sv.ownBlock = some g ∨ cv.ownBlock = some g → O g = some (some s)

theorem FileAt.keep {W W' : World} {O O' : Owner} {base fb : Nat} {s : ByteArray} {now safe : Option (List Nat)} {cs : List Chg} (h : FileAt W O base s fb now safe cs)
    (hk : ∀ k, k < W.heap.size → O k = some (some s) → W'.heap[k]? = W.heap[k]? ∧ O' k = some (some s)) : FileAt W' O' base s fb now safe cs := by
  obtain ⟨sh, nv, sv, cv, h1, h2, h3, h4, h5, h6, h7⟩ := h
  refine ⟨sh, nv, sv, cv, ?_, h2.keep fun g hg => (hk g (h2.own g hg).2 (h7 g (.inl hg))).1, h3.keep fun g hg => (hk g (h3.own g hg).2 (h7 g (.inr (.inl hg)))).1, h4, h5.keep fun g hg => (hk g (h5.own g hg).2 (h7 g (.inr (.inr hg)))).1, (hk fb h1.lt h6).2, ?_⟩
  · exact (hk fb h1.lt h6).1.trans h1
  · rintro g (hg | hg | hg)
    · exact (hk g (h2.own g hg).2 (h7 g (.inl hg))).2
    · exact (hk g (h3.own g hg).2 (h7 g (.inr (.inl hg)))).2
    · exact (hk g (h5.own g hg).2 (h7 g (.inr (.inr hg)))).2

/-- The disk's own blocks. -/
structure Core (W : World) (O : Owner) (db mb : Nat) (D : DS) (F : ByteArray → Option Nat) : Prop where
  disk : DB W db mb (D.room : Int) (D.used : Int) (D.made : Int) D.fails
  map : ∃ n, n ≤ D.made ∧ MapP Try.prog 9 W mb n F
  odb : O db = some none
  omb : O mb = some none
  dom : ∀ s, Short s → ((F s).isSome ↔ s ∈ D.names)
  lt : ∀ k, O k ≠ none → k < W.heap.size

/-- A disk in memory. -/
def DiskAt (W : World) (O : Owner) (db : Nat) (D : DS) : Prop :=
  ∃ mb F, Core W O db mb D F ∧ ∀ s ∈ D.names, ∃ fb, F s = some fb ∧ FileAt W O (db + 1) s fb (D.now s) (D.safe s) (mine s D.chs)

/-- What a call leaves: what isn't the disk's lies as it lay, and isn't the disk's now. -/
structure Past (w : World) (O : Owner) (W : World) (O' : Owner) : Prop where
  os : W.os = w.os
  tape : W.tape = w.tape
  output : W.output = w.output
  size : w.heap.size ≤ W.heap.size
  same : ∀ k, k < w.heap.size → O k = none → W.heap[k]? = w.heap[k]?
  none : ∀ k, k < w.heap.size → O k = Option.none → O' k = Option.none

theorem Past.refl (w : World) (O : Owner) : Past w O w O := ⟨rfl, rfl, rfl, Nat.le_refl _, fun _ _ _ => rfl, fun _ _ h => h⟩
theorem Past.trans {a b c : World} {O P Q : Owner} (h : Past a O b P) (k : Past b P c Q) : Past a O c Q :=
  ⟨k.os.trans h.os, k.tape.trans h.tape, k.output.trans h.output, Nat.le_trans h.size k.size, fun j hj ho => (k.same j (Nat.lt_of_lt_of_le hj h.size) (h.none j hj ho)).trans (h.same j hj ho), fun j hj ho => k.none j (Nat.lt_of_lt_of_le hj h.size) (h.none j hj ho)⟩
theorem Past.of_below {w W : World} (O : Owner) (h : Below w.heap.size w W) : Past w O W O := ⟨h.os, h.tape, h.output, h.size, fun k hk _ => h.block k hk, fun _ _ h => h⟩
theorem Past.drew {w W : World} {O O' : Owner} (h : Past w O W O') : Past w O W.drew O' := ⟨h.os, h.tape, h.output, h.size, h.same, h.none⟩
/-- All below a block that no disk has lies as it lay. -/
theorem Past.below {w W : World} {O O' : Owner} {n : Nat} (h : Past w O W O') (hn : ∀ k, k < n → O k = Option.none) (hs : n ≤ w.heap.size) : Below n w W := ⟨h.os, h.tape, h.output, h.size, fun k hk => h.same k (Nat.lt_of_lt_of_le hk hs) (hn k hk)⟩
theorem Past.low {w W : World} {O O' : Owner} {n : Nat} (h : Past w O W O') (hn : ∀ k, k < n → O k = Option.none) (hs : n ≤ w.heap.size) : ∀ k, k < n → O' k = Option.none := fun k hk => h.none k (Nat.lt_of_lt_of_le hk hs) (hn k hk)

theorem DB.at {W W' : World} {db mb : Nat} {room used made : Int} {fails : Bool} (h : DB W db mb room used made fails) (hb : W'.heap[db]? = W.heap[db]?) : DB W' db mb room used made fails := hb.trans h

/-- The disk in a world that leaves all of its blocks. -/
theorem Core.keep {W W' : World} {O : Owner} {db mb : Nat} {D : DS} {F : ByteArray → Option Nat} (h : Core W O db mb D F) (hs : W.heap.size ≤ W'.heap.size) (hk : ∀ k, k < W.heap.size → O k ≠ none → W'.heap[k]? = W.heap[k]?) : Core W' O db mb D F := by
  obtain ⟨n, hn, hm⟩ := h.map
  exact ⟨h.disk.at (hk _ h.disk.lt (by rw [h.odb]; simp)), ⟨n, hn, hm.at (hk _ hm.lt (by rw [h.omb]; simp))⟩, h.odb, h.omb, h.dom, fun k hk => Nat.lt_of_lt_of_le (h.lt k hk) hs⟩
theorem DiskAt.keep {W W' : World} {O : Owner} {db : Nat} {D : DS} (h : DiskAt W O db D) (hs : W.heap.size ≤ W'.heap.size) (hk : ∀ k, k < W.heap.size → O k ≠ none → W'.heap[k]? = W.heap[k]?) : DiskAt W' O db D := by
  obtain ⟨mb, F, h1, h2⟩ := h
  refine ⟨mb, F, h1.keep hs hk, fun s hs' => ?_⟩
  obtain ⟨fb, h3, h4⟩ := h2 s hs'
  exact ⟨fb, h3, h4.keep fun k hk' ho => ⟨hk k hk' (by rw [ho]; simp), ho⟩⟩
theorem DiskAt.below {W W' : World} {O : Owner} {db : Nat} {D : DS} (h : DiskAt W O db D) (hB : Below W.heap.size W W') : DiskAt W' O db D := h.keep hB.size fun k hk _ => hB.block k hk
theorem DiskAt.lt {W : World} {O : Owner} {db : Nat} {D : DS} (h : DiskAt W O db D) : ∀ k, O k ≠ none → k < W.heap.size := by
  obtain ⟨mb, F, h1, _⟩ := h; exact h1.lt

/-- The blocks from n on to N are a file's. -/
def own (O : Owner) (n N : Nat) (s : ByteArray) : Owner := fun k => if n ≤ k ∧ k < N then some (some s) else O k
theorem own_old {O : Owner} {n N : Nat} {s : ByteArray} {k : Nat} (h : k < n) : own O n N s k = O k := if_neg (by omega)
theorem own_new {O : Owner} {n N : Nat} {s : ByteArray} {k : Nat} (h : n ≤ k) (h2 : k < N) : own O n N s k = some (some s) := if_pos ⟨h, h2⟩

/-- A call that turned one file: the disk behind it. -/
theorem DiskAt.turned {w W : World} {O : Owner} {db mb fb : Nat} {D D' : DS} {F F' : ByteArray → Option Nat} {s : ByteArray} (hc : Core w O db mb D F) (hf : ∀ x ∈ D.names, x ≠ s → ∃ fb, F x = some fb ∧ FileAt w O (db + 1) x fb (D.now x) (D.safe x) (mine x D.chs))
    (hdisk : DB W db mb (D'.room : Int) (D'.used : Int) (D'.made : Int) D'.fails) (hmap : ∃ n, n ≤ D'.made ∧ MapP Try.prog 9 W mb n F') (hdom : ∀ x, Short x → ((F' x).isSome ↔ x ∈ D'.names))
    (hsize : w.heap.size ≤ W.heap.size) (hold : ∀ k, k < w.heap.size → (∀ x, O k = some x → ∃ y, x = some y ∧ y ≠ s) → W.heap[k]? = w.heap[k]?)
    (hsame : ∀ x ∈ D'.names, x ≠ s → x ∈ D.names ∧ F' x = F x ∧ D'.now x = D.now x ∧ D'.safe x = D.safe x ∧ mine x D'.chs = mine x D.chs)
    (hfile : s ∈ D'.names → F' s = some fb ∧ FileAt W (own O w.heap.size W.heap.size s) (db + 1) s fb (D'.now s) (D'.safe s) (mine s D'.chs))
    (hos : W.os = w.os) (htape : W.tape = w.tape) (hout : W.output = w.output) :
    DiskAt W (own O w.heap.size W.heap.size s) db D' ∧ Past w O W (own O w.heap.size W.heap.size s) := by
  have hdb := hc.disk.lt
  have hmb : mb < w.heap.size := hc.lt mb (by rw [hc.omb]; simp)
  refine ⟨⟨mb, F', ⟨hdisk, hmap, (own_old hdb).trans hc.odb, (own_old hmb).trans hc.omb, hdom, fun k hk => ?_⟩, fun x hx => ?_⟩, ⟨hos, htape, hout, hsize, fun k hk ho => hold k hk (fun x hx => by rw [ho] at hx; cases hx), fun k hk ho => (own_old hk).trans ho⟩⟩
  · by_cases h : w.heap.size ≤ k ∧ k < W.heap.size
    · exact h.2
    · have : own O w.heap.size W.heap.size s k = O k := if_neg h
      rw [this] at hk
      exact Nat.lt_of_lt_of_le (hc.lt k hk) hsize
  · by_cases hxs : x = s
    · subst hxs
      exact ⟨fb, hfile hx⟩
    · obtain ⟨h1, h2, h3, h4, h5⟩ := hsame x hx hxs
      obtain ⟨fx, h6, h7⟩ := hf x h1 hxs
      rw [h2, h3, h4, h5]
      refine ⟨fx, h6, h7.keep fun k hk ho => ⟨hold k hk fun y hy => ?_, (own_old hk).trans ho⟩⟩
      rw [ho] at hy
      exact ⟨x, (Option.some.inj hy).symm, hxs⟩

/-- A new disk. -/
theorem DiskAt.made {w W : World} {room : Nat} {db mb : Nat} (h : DB W db mb (room : Int) 0 0 false) (hm : MapP Try.prog 9 W mb 0 (fun _ => none)) (hdb : w.heap.size ≤ db) (hmb : w.heap.size ≤ mb) :
    DiskAt W (fun k => if k = db ∨ k = mb then some none else none) db (DS.fresh room) := by
  refine ⟨mb, fun _ => none, ⟨h, ⟨0, Nat.le_refl _, hm⟩, if_pos (.inl rfl), if_pos (.inr rfl), fun s _ => by simp [DS.fresh], fun k hk => ?_⟩, fun s hs => by simp [DS.fresh] at hs⟩
  by_cases hk2 : k = db ∨ k = mb
  · rcases hk2 with rfl | rfl
    · exact h.lt
    · exact hm.lt
  · rw [if_neg hk2] at hk; exact absurd rfl hk

end Go.Proofs.Ytlmohcmnoddncaa.Disk
