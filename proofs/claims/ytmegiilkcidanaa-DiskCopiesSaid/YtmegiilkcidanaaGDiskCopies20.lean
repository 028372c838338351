/-
  Put together out of texts of one chain: what they hold stands ahead of each.
-/
import Derived.Test.YtmegiilkcidanaaGDiskCopies06
import Derived.Test.YtmegiilkcidanaaGDiskCopies07
import Derived.Test.YtmegiilkcidanaaGDiskCopies10
/-
  The contract of the document's disk's Crash: what each change makes of the durable files.
-/
namespace Go.Proofs.Ytmegiilkcidanaa.Disk
open Go Go.RowKit Go.Sort Go.Lib Go.Proofs.Ytmegiilkcidanaa.Law

/-- A name's bytes as plain data. -/
def datF (l : List RF) (s : ByteArray) : Option (List Nat) := (getF l s).map fun p => p.1.2
/-- What a change makes of a file, by its pick. -/
def behindR (c : RChg) (p : Int) (o : Option (List Nat)) : Option (List Nat) :=
  if c.kind = 0 then (if 0 < min p (c.data.length : Int) ∧ c.pos ≤ szO o then some (overL (o.getD []) c.pos (c.data.take (min p (c.data.length : Int)).toNat)) else o)
  else if c.kind = 1 then (if 0 < p ∧ c.pos < szO o then some ((o.getD []).take c.pos) else o)
  else if 0 < p then none else o
def crashR (picks : List Int) (chs : List RC) (f : ByteArray → Option (List Nat)) : Nat → ByteArray → Option (List Nat)
  | 0 => f
  | k + 1 => match chs[k]? with
    | some c => upd (crashR picks chs f k) c.1.name (behindR c.1 (picks.getD k 0) (crashR picks chs f k c.1.name))
    | none => crashR picks chs f k

theorem datF_with (s : ByteArray) (bs : List Nat) (v : Value) (l : List RF) : datF (withF s ((s, bs), v) l) = upd (datF l) s (some bs) := by
  funext t
  unfold datF upd
  rw [getF_with s ((s, bs), v) rfl t l]
  split <;> rfl
theorem datF_without (s : ByteArray) (l : List RF) : datF (l.filter (neN s)) = upd (datF l) s none := by
  funext t
  unfold datF upd
  rw [getF_filter]
  split <;> rfl
theorem upd_self (f : ByteArray → Option (List Nat)) (s : ByteArray) : upd f s (f s) = f := by
  funext t
  unfold upd
  split
  · rename_i h; rw [h]
  · rfl
theorem withF_len (s : ByteArray) (x : RF) (l : List RF) : (withF s x l).length ≤ l.length + 1 := by
  rw [withF_eq]
  induction l with
  | nil => simp [withR]
  | cons p r ih =>
    unfold withR
    split
    · simp only [List.length_cons]; omega
    · simp only [List.length_cons]
      have := List.length_filter_le (neN s) (p :: r)
      simp only [List.length_cons] at this
      omega
theorem withF_mem (s : ByteArray) (x : RF) (l : List RF) (q : RF) (h : q ∈ withF s x l) : q = x ∨ q ∈ l := by
  rw [withF_eq] at h
  rcases withR_mem s x q l h with h | h
  · exact .inl h
  · exact .inr h.1

/-- Whose blocks the bytes of a list's files are: of one of the lists, or new. -/
def FromB (n : Nat) (old l : List RF) : Prop := ∀ p ∈ l, ∀ g, p.2.ownBlock = some g → (∃ q ∈ old, q.2.ownBlock = some g) ∨ n ≤ g

/-- What holds behind k changes. -/
structure CrashAt (w : World) (base q : Nat) (room : Int) (fails : Bool) (nv cv : Value) (now safe : List RF) (chs : List RC) (picks : List Int) (k : Nat) (W : World) (l : List RF) (sv : Value) : Prop where
  rd : RD W q room fails nv sv cv
  files : FilesAt W base sv l
  nowAt : FilesAt W base nv now
  chsAt : ChsAt W base cv chs
  len : l.length ≤ safe.length + k
  sorted : SortedF l
  dat : datF l = crashR picks chs (datF safe) k
  size : ∀ s, szO (datF l s) ≤ 1073741824
  from_ : FromB w.heap.size safe l
  kept : RefK base q w W
variable {w W W1 : World} {base q k : Nat} {room : Int} {fails : Bool} {nv cv sv : Value} {now safe l : List RF} {chs : List RC} {picks : List Int}

theorem CrashAt.below (h : CrashAt w base q room fails nv cv now safe chs picks k W l sv) (hB : Below W.heap.size W W1) : CrashAt w base q room fails nv cv now safe chs picks k W1 l sv :=
  ⟨h.rd.below hB, h.files.below hB, h.nowAt.below hB, h.chsAt.below hB, h.len, h.sorted, h.dat, h.size, h.from_, h.kept.then_below hB⟩
theorem crashR_next (f : ByteArray → Option (List Nat)) {c : RC} (hc : chs[k]? = some c) : crashR picks chs f (k + 1) = upd (crashR picks chs f k) c.1.name (behindR c.1 (picks.getD k 0) (crashR picks chs f k c.1.name)) := by
  rw [crashR, hc]
/-- A change that does nothing. -/
theorem CrashAt.skip (h : CrashAt w base q room fails nv cv now safe chs picks k W l sv) {c : RC} (hc : chs[k]? = some c) (hb : behindR c.1 (picks.getD k 0) (datF l c.1.name) = datF l c.1.name) : CrashAt w base q room fails nv cv now safe chs picks (k + 1) W l sv :=
  ⟨h.rd, h.files, h.nowAt, h.chsAt, by have := h.len; omega, h.sorted, by
    rw [crashR_next _ hc, ← h.dat, hb, upd_self], h.size, h.from_, h.kept⟩
/-- A change that sets the files. -/
theorem CrashAt.turn (h : CrashAt w base q room fails nv cv now safe chs picks k W l sv) {c : RC} (hc : chs[k]? = some c) (hB : Below W.heap.size W W1) {l' : List RF} {v1 : Value} (hF : FilesN W.heap.size W1 base v1 l') (hl : l'.length ≤ l.length + 1) (hs : SortedF l')
    (hd : datF l' = upd (datF l) c.1.name (behindR c.1 (picks.getD k 0) (datF l c.1.name))) (hz : szO (behindR c.1 (picks.getD k 0) (datF l c.1.name)) ≤ 1073741824) (hf : FromB w.heap.size safe l') : CrashAt w base q room fails nv cv now safe chs picks (k + 1) (W1.setCell ⟨q, 3, none⟩ v1) l' v1 := by
  have hq := h.rd.below hB
  refine ⟨rd_set3 hq v1, files_set hF.1 hq 3, files_set (h.nowAt.below hB) hq 3, chs_set (h.chsAt.below hB) hq 3, by have := h.len; omega, hs, by rw [hd, crashR_next _ hc, ← h.dat], fun s => ?_, hf, (h.kept.then_below hB).put hq 3 v1 fun g hg => .inr (Nat.le_trans h.kept.low.size (hF.2 g hg))⟩
  rw [hd]
  unfold upd
  split
  · exact hz
  · exact h.size s
theorem FromB.with_ {n : Nat} {old l : List RF} (h : FromB n old l) (s : ByteArray) (bs : List Nat) (v : Value) (hv : ∀ g, v.ownBlock = some g → (∃ q ∈ old, q.2.ownBlock = some g) ∨ n ≤ g) : FromB n old (withF s ((s, bs), v) l) := fun p hp g hg => by
  rcases withF_mem s _ l p hp with rfl | hp
  · exact hv g hg
  · exact h p hp g hg
theorem FromB.without_ {n : Nat} {old l : List RF} (h : FromB n old l) (s : ByteArray) : FromB n old (l.filter (neN s)) := fun p hp => h p (List.mem_filter.1 hp).1

end Go.Proofs.Ytmegiilkcidanaa.Disk
