/-
  Contracts off the shelf that disk's functions use: a string's clone; a row of changes sorted by number.
-/
import Derived.Test.YtlmohcmnoddncaaDiskFile
import Derived.Test.YtlmohcmnoddncaaDiskLay
import Derived.Shelf.SlSortCmp.WholeK
import Derived.Shelf.SlicesG.Cmp
import Derived.Shelf.Strconv.Clone
import Derived.Ground.SlsfProg
import Derived.Ground.SlgcProg
import Derived.Ground.NamesProg
namespace Go.Proofs.Ytlmohcmnoddncaa.Disk
open Go Go.RowKit Go.Proofs.Ytlmohcmnoddncaa.Law Go.Shelf Go.Lib Go.Sort

set_option maxRecDepth 100000 in
set_option maxHeartbeats 1000000 in
theorem cloneS_calls (s : ByteArray) (w : World) (h : s.size ≤ 281474976710656) : Calls Try.prog 46 #[.string s] w fun e W => e = .returned (.string s) ∧ Below w.heap.size w W := by
  have hcon := fun W => Any.stringslite_Clone Try.cloneStr s W h
  change ∀ W, Calls Try.prog 63 _ _ _ at hcon
  go_enter Try.func46, Try.ntmps46
  go_wp2_with (go_at_call 63; refine (hcon _).mono ?_; rintro e w' ⟨rfl, hB⟩)
  go_ret
  exact ⟨rfl, hB⟩

instance : Inhabited Chg := ⟨⟨0, 0, 0, ⟨#[]⟩⟩⟩

/-- A file and a change, as cells. -/
def encX (x : Nat × Chg) : List Value := [.pointer (some ⟨x.1, 0, none⟩), .int .i64 (x.2.n : Nat), .int .i64 (x.2.kind : Nat), .int .i64 (x.2.pos : Nat), .string x.2.s]
abbrev cmpX (x y : Nat × Chg) : Int := Lib.compareInt (x.2.n : Nat) (y.2.n : Nat)
theorem ltX (x y : Nat × Chg) : ltOf cmpX x y = decide (x.2.n < y.2.n) := by
  unfold ltOf cmpX Lib.compareInt
  by_cases h1 : x.2.n < y.2.n
  · simp [h1]
  · by_cases h2 : y.2.n < x.2.n <;> simp [h1, h2]
theorem swoX : SWO (ltOf cmpX) where
  irrefl x := by rw [ltX]; simp
  trans x y z h1 h2 := by rw [ltX] at *; simp at *; omega
  ntrans x y z h1 h2 := by rw [ltX] at *; simp at *; omega

set_option maxRecDepth 100000 in
set_option maxHeartbeats 1000000 in
theorem closureX (x y : Nat × Chg) (W : World) : Calls Try.prog 59 #[.agg (encX x).toArray, .agg (encX y).toArray] W fun e w' => e = .returned (.int .i64 (cmpX x y)) ∧ ∃ q os', w' = grow (W.drewN q) os' := by
  have hcon := fun W' => AnyG.cmp_Compare_int Try.cmpInt (x.2.n : Nat) (y.2.n : Nat) W'
  change ∀ W', Calls Try.prog 60 _ _ _ at hcon
  unfold cmpX
  generalize Lib.compareInt (x.2.n : Nat) (y.2.n : Nat) = r at hcon ⊢
  unfold encX
  go_enter Try.func59, Try.ntmps59
  go_wp2_with (go_at_call 60; refine (hcon _).mono ?_; rintro e w' ⟨rfl, rfl⟩)
  go_ret
  exact ⟨rfl, 0, _, by rw [alloc_eq_grow, alloc_eq_grow, grow_grow]; rfl⟩

theorem sortX_calls (blk off cap : Nat) (d : Array (Nat × Chg)) (w : World) (hH : HoldsK encX 5 w blk off d) (hblk : blk < w.heap.size) (hsz : d.size < 4611686018427387904) :
    Calls Try.prog 58 #[.slice (some ⟨blk, off, none⟩) d.size cap, .func (.func 59) #[] #[]] w fun e w' => e = .returned (.tuple #[]) ∧ ∃ d' n os, PermIn 0 d.size d d' ∧ SortedIn (ltOf cmpX) 0 d.size d' ∧ w' = sortWorldK encX 5 w blk off n d' os := by
  have eg : ∀ args w, (callFunc 59 args).run Try.prog w = .ok (.enter 59 args) w := enters_of Try.func59 (by kernel_rfl) rfl
  have hcon := AnyQ.slices_SortFunc Try.sortOfFile 5 Try.isAgg104 Try.sizeOf104 encX (fun _ => rfl) (fun x v hv => by simp [encX] at hv; rcases hv with rfl | rfl | rfl | rfl | rfl <;> rfl) cmpX swoX 59 #[] blk off cap d w eg (fun _ _ _ _ x y => closureX x y _) hH hblk hsz
  change Calls Try.prog 58 _ _ _ at hcon
  exact hcon

end Go.Proofs.Ytlmohcmnoddncaa.Disk
