/-
  Contracts of the small functions of one item.
-/
import Derived.Test.YtffehnojcajhiaaWireItems
import Derived.Test.YtffehnojcajhiaaSame
import Derived.Laws.IdiomStrings
import Derived.Laws.MathBits
import Derived.Lib.BitFns
import Derived.Lib.Zigzag
import Derived.Deep.Draws
import Derived.BigQuiet
import Derived.Deep.QuietTactic
import Derived.RegionTactic
import Derived.LoopTactic
namespace Go.Proofs.Ytffehnojcajhiaa.Wire
open Go Go.RowKit Go.Proofs.Ytffehnojcajhiaa.Law

theorem toList_nil (s : ByteArray) : s.toList = [] ↔ s.size = 0 := by
  rw [ByteArray.toList_eq]
  constructor
  · intro h
    have h2 : s.data.toList.length = 0 := by rw [h]; rfl
    rw [Array.length_toList] at h2; exact h2
  · intro h
    apply List.eq_nil_of_length_eq_zero
    rw [Array.length_toList]; exact h

/-- In form, by the parts. -/
def formB (k n : Int) (sz len : Nat) : Bool :=
  if k = 0 then decide (sz = 0) && decide (len = 0)
  else if k = 1 then decide (n = 0) && decide (len = 0)
  else if k = 2 then decide (n = 0) && decide (sz = 0)
  else false
theorem form_eq (x : Item) : x.form = formB x.kind x.n x.s.size x.kids.length := rfl

theorem ret_bool {a b : Bool} (h : a = b) : Ending.returned (.bool a) = .returned (.bool b) := by rw [h]
theorem below_drewN {B : Nat} {a w : World} (h : Below B a w) (n : Nat) : Below B a (w.drewN n) := by
  induction n generalizing w with
  | zero => exact h
  | succ n ih => have := ih h.drew; rwa [World.drewN_drew, Nat.add_comm] at this
theorem beq0 (len : Nat) : ((len : Int) == 0) = decide (len = 0) := by
  rw [Bool.eq_iff_iff]; simp

set_option maxRecDepth 100000 in
set_option maxHeartbeats 2000000 in
theorem refform (k n : Int) (s : ByteArray) (A : Option Addr) (len cap : Nat) (w : World) :
    Calls Try.prog 53 #[.agg #[.int .i64 k, .int .i64 n, .string s, .slice A len cap]] w fun e W => e = .returned (.bool (formB k n s.size len)) ∧ Below w.heap.size w W := by
  have hz := toList_nil s
  obtain ⟨r, hr⟩ : ∃ r, formB k n s.size len = r := ⟨_, rfl⟩
  rw [hr]
  have HR := Lib.hid hr
  clear hr
  by_cases hs : s.size = 0
  · have HS := Lib.hid hs
    have h1 : s.toList = [] := hz.2 hs
    have h2 : (!s.toList.isEmpty) = false := by simp [h1]
    clear hs hz
    by_cases h0 : k = 0
    · subst h0
      go_enter Try.func53, Try.ntmps53
      go_wp2
      all_goals (go_ret; refine ⟨ret_bool ?_, (Below.refl _ _).alloc (Nat.le_refl _) _⟩; have := HR.out; first | (simp_all [formB, HS.out]; done) | simp_all [formB, HS.out, beq0])
    · by_cases h0 : k = 1
      · subst h0
        go_enter Try.func53, Try.ntmps53
        go_wp2
        all_goals (go_ret; refine ⟨ret_bool ?_, (Below.refl _ _).alloc (Nat.le_refl _) _⟩; have := HR.out; first | (simp_all [formB, HS.out]; done) | simp_all [formB, HS.out, beq0])
      · by_cases h0 : k = 2
        · subst h0
          go_enter Try.func53, Try.ntmps53
          go_wp2
          all_goals (go_ret; refine ⟨ret_bool ?_, (Below.refl _ _).alloc (Nat.le_refl _) _⟩; have := HR.out; first | (simp_all [formB, HS.out]; done) | simp_all [formB, HS.out, beq0])
        · go_enter Try.func53, Try.ntmps53
          go_wp2
          all_goals (go_ret; refine ⟨ret_bool ?_, (Below.refl _ _).alloc (Nat.le_refl _) _⟩; have := HR.out; first | (simp_all [formB, HS.out]; done) | simp_all [formB, HS.out, beq0])
  · have HS := Lib.hid hs
    have h1 : ¬ s.toList = [] := fun h => hs (hz.1 h)
    have h2 : (!s.toList.isEmpty) = true := by simp [h1]
    clear hs hz
    by_cases h0 : k = 0
    · subst h0
      go_enter Try.func53, Try.ntmps53
      go_wp2
      all_goals (go_ret; refine ⟨ret_bool ?_, (Below.refl _ _).alloc (Nat.le_refl _) _⟩; have := HR.out; first | (simp_all [formB, HS.out]; done) | simp_all [formB, HS.out, beq0])
    · by_cases h0 : k = 1
      · subst h0
        go_enter Try.func53, Try.ntmps53
        go_wp2
        all_goals (go_ret; refine ⟨ret_bool ?_, (Below.refl _ _).alloc (Nat.le_refl _) _⟩; have := HR.out; first | (simp_all [formB, HS.out]; done) | simp_all [formB, HS.out, beq0])
      · by_cases h0 : k = 2
        · subst h0
          go_enter Try.func53, Try.ntmps53
          go_wp2
          all_goals (go_ret; refine ⟨ret_bool ?_, (Below.refl _ _).alloc (Nat.le_refl _) _⟩; have := HR.out; first | (simp_all [formB, HS.out]; done) | simp_all [formB, HS.out, beq0])
        · go_enter Try.func53, Try.ntmps53
          go_wp2
          all_goals (go_ret; refine ⟨ret_bool ?_, (Below.refl _ _).alloc (Nat.le_refl _) _⟩; have := HR.out; first | (simp_all [formB, HS.out]; done) | simp_all [formB, HS.out, beq0])

set_option maxRecDepth 100000 in
set_option maxHeartbeats 2000000 in
theorem inform (k n : Int) (s : ByteArray) (A : Option Addr) (len cap : Nat) (w : World) :
    Calls Try.prog 47 #[.agg #[.int .i64 k, .int .i64 n, .string s, .slice A len cap]] w fun e W => e = .returned (.bool (formB k n s.size len)) ∧ Below w.heap.size w W := by
  have hz := toList_nil s
  obtain ⟨r, hr⟩ : ∃ r, formB k n s.size len = r := ⟨_, rfl⟩
  rw [hr]
  have HR := Lib.hid hr
  clear hr
  by_cases hs : s.size = 0
  · have HS := Lib.hid hs
    have h1 : s.toList = [] := hz.2 hs
    have h2 : (!s.toList.isEmpty) = false := by simp [h1]
    clear hs hz
    by_cases h0 : k = 0
    · subst h0
      go_enter Try.func47, Try.ntmps47
      go_wp2
      go_quiet (fail)
      go_wp2
      all_goals (go_ret; refine ⟨ret_bool ?_, below_drewN ((Below.refl _ _).alloc (Nat.le_refl _) _) _⟩; have := HR.out; first | (simp_all [formB, HS.out]; done) | simp_all [formB, HS.out, beq0])
    · by_cases h0 : k = 1
      · subst h0
        go_enter Try.func47, Try.ntmps47
        go_wp2
        go_quiet (fail)
        go_wp2
        all_goals (go_ret; refine ⟨ret_bool ?_, below_drewN ((Below.refl _ _).alloc (Nat.le_refl _) _) _⟩; have := HR.out; first | (simp_all [formB, HS.out]; done) | simp_all [formB, HS.out, beq0])
      · by_cases h0 : k = 2
        · subst h0
          go_enter Try.func47, Try.ntmps47
          go_wp2
          go_quiet (fail)
          go_wp2
          all_goals (go_ret; refine ⟨ret_bool ?_, below_drewN ((Below.refl _ _).alloc (Nat.le_refl _) _) _⟩; have := HR.out; first | (simp_all [formB, HS.out]; done) | simp_all [formB, HS.out, beq0])
        · go_enter Try.func47, Try.ntmps47
          go_wp2
          go_quiet (fail)
          go_wp2
          all_goals (go_ret; refine ⟨ret_bool ?_, below_drewN ((Below.refl _ _).alloc (Nat.le_refl _) _) _⟩; have := HR.out; first | (simp_all [formB, HS.out]; done) | simp_all [formB, HS.out, beq0])
  · have HS := Lib.hid hs
    have h1 : ¬ s.toList = [] := fun h => hs (hz.1 h)
    have h2 : (!s.toList.isEmpty) = true := by simp [h1]
    clear hs hz
    by_cases h0 : k = 0
    · subst h0
      go_enter Try.func47, Try.ntmps47
      go_wp2
      go_quiet (fail)
      go_wp2
      all_goals (go_ret; refine ⟨ret_bool ?_, below_drewN ((Below.refl _ _).alloc (Nat.le_refl _) _) _⟩; have := HR.out; first | (simp_all [formB, HS.out]; done) | simp_all [formB, HS.out, beq0])
    · by_cases h0 : k = 1
      · subst h0
        go_enter Try.func47, Try.ntmps47
        go_wp2
        go_quiet (fail)
        go_wp2
        all_goals (go_ret; refine ⟨ret_bool ?_, below_drewN ((Below.refl _ _).alloc (Nat.le_refl _) _) _⟩; have := HR.out; first | (simp_all [formB, HS.out]; done) | simp_all [formB, HS.out, beq0])
      · by_cases h0 : k = 2
        · subst h0
          go_enter Try.func47, Try.ntmps47
          go_wp2
          go_quiet (fail)
          go_wp2
          all_goals (go_ret; refine ⟨ret_bool ?_, below_drewN ((Below.refl _ _).alloc (Nat.le_refl _) _) _⟩; have := HR.out; first | (simp_all [formB, HS.out]; done) | simp_all [formB, HS.out, beq0])
        · go_enter Try.func47, Try.ntmps47
          go_wp2
          go_quiet (fail)
          go_wp2
          all_goals (go_ret; refine ⟨ret_bool ?_, below_drewN ((Below.refl _ _).alloc (Nat.le_refl _) _) _⟩; have := HR.out; first | (simp_all [formB, HS.out]; done) | simp_all [formB, HS.out, beq0])

theorem ret_int {k : IntKind} {a b : Int} (h : a = b) : Ending.returned (.int k a) = .returned (.int k b) := by rw [h]

set_option maxRecDepth 100000 in
set_option maxHeartbeats 2000000 in
theorem unsigned_calls (n : Int) (h1 : -9223372036854775808 ≤ n) (h2 : n ≤ 9223372036854775807) (w : World) :
    Calls Try.prog 65 #[.int .i64 n] w fun e W => e = .returned (.int .u64 (zig n : Nat)) ∧ w = W := by
  have hz : zig n = Lib.zigzag n := by unfold zig Lib.zigzag; by_cases h : n < 0 <;> simp [h] <;> omega
  rw [hz]
  by_cases h0 : n < 0
  · have hz1 := Lib.zigzag_neg h1 h0
    obtain ⟨z, hz⟩ : ∃ z, ((Lib.zigzag n : Nat) : Int) = z := ⟨_, rfl⟩
    rw [hz] at hz1 ⊢
    have HZ := Lib.hid hz1
    clear hz hz1
    go_enter Try.func65, Try.ntmps65
    go_wp2
    go_ret
    exact ⟨ret_int HZ.out, rfl⟩
  · have hz1 := Lib.zigzag_nonneg (x := n) (by omega)
    rw [hz1]
    clear hz hz1
    go_enter Try.func65, Try.ntmps65
    go_wp2
    go_ret
    exact ⟨ret_int (by omega), rfl⟩

/-- The number behind an item's kind, by the parts. -/
def noN (k n : Int) (sz len : Nat) : Nat := if k = 1 then sz else if k = 2 then len else zig n
theorem no_eq (x : Item) : x.no = noN x.kind x.n x.s.size x.kids.length := rfl

set_option maxRecDepth 100000 in
set_option maxHeartbeats 2000000 in
theorem number_calls (k n : Int) (h1 : -9223372036854775808 ≤ n) (h2 : n ≤ 9223372036854775807) (s : ByteArray) (hs : s.size ≤ 140737488355328) (A : Option Addr) (len cap : Nat) (hl : len ≤ 9223372036854775807) (w : World) :
    Calls Try.prog 49 #[.agg #[.int .i64 k, .int .i64 n, .string s, .slice A len cap]] w fun e W => e = .returned (.int .u64 (noN k n s.size len : Nat)) ∧ Below w.heap.size w W := by
  obtain ⟨r, hr⟩ : ∃ r, noN k n s.size len = r := ⟨_, rfl⟩
  rw [hr]
  have HR := Lib.hid hr
  clear hr
  by_cases h0 : k = 1
  · subst h0
    have HR : s.size = r := by have := HR.out; simpa [noN] using this
    go_enter Try.func49, Try.ntmps49
    go_wp2
    go_ret
    exact ⟨ret_int (by omega), (Below.refl _ _).alloc (Nat.le_refl _) _⟩
  · by_cases h0 : k = 2
    · subst h0
      have HR : len = r := by have := HR.out; simpa [noN] using this
      go_enter Try.func49, Try.ntmps49
      go_wp2
      go_ret
      exact ⟨ret_int (by omega), (Below.refl _ _).alloc (Nat.le_refl _) _⟩
    · go_enter Try.func49, Try.ntmps49
      go_wp2_with fail
      refine (unsigned_calls n h1 h2 _).mono ?_
      rintro e W ⟨rfl, rfl⟩
      go_wp2
      go_ret
      exact ⟨ret_int (by have := HR.out; simp only [noN] at this; rw [if_neg (by assumption), if_neg (by assumption)] at this; rw [this]), (Below.refl _ _).alloc (Nat.le_refl _) _⟩

end Go.Proofs.Ytffehnojcajhiaa.Wire
