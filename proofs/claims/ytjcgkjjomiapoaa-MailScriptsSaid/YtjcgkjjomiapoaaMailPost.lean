/-
  Messages on their way: a post in memory; contracts of mail's New, hasNode, Len, refusal.
-/
import Derived.Test.YtjcgkjjomiapoaaFrm
import Derived.Test.YtjcgkjjomiapoaaOwnRows
namespace Go.Proofs.Ytjcgkjjomiapoaa.Mail
open Go Go.RowKit Go.Proofs.Ytjcgkjjomiapoaa.Law

structure Msg where
  src : Int
  dst : Int
  s : ByteArray

abbrev msgV (m : Msg) : Value := .agg #[.int .i64 m.src, .int .i64 m.dst, .string m.s]
def flatM : List Msg → List Value
  | [] => []
  | m :: r => .int .i64 m.src :: .int .i64 m.dst :: .string m.s :: flatM r
theorem flatM_length : ∀ l : List Msg, (flatM l).length = l.length * 3
  | [] => rfl
  | m :: r => by simp only [flatM, List.length_cons, flatM_length r]; omega
theorem flatM_append : ∀ a b : List Msg, flatM (a ++ b) = flatM a ++ flatM b
  | [], b => by simp [flatM]
  | x :: a, b => by simp only [List.cons_append, flatM, flatM_append a b]
theorem flatM_one : ∀ l : List Msg, ∀ u ∈ flatM l, u.oneCell' = true
  | [], u, h => by simp [flatM] at h
  | c :: r, u, h => by
    simp only [flatM, List.mem_cons] at h
    rcases h with rfl | rfl | rfl | h
    · rfl
    · rfl
    · rfl
    · exact flatM_one r u h
theorem flatM_take : ∀ (l : List Msg) (k : Nat), (flatM l).take (k * 3) = flatM (l.take k)
  | [], k => by simp [flatM]
  | m :: r, 0 => by simp [flatM]
  | m :: r, k + 1 => by
    rw [show (k + 1) * 3 = k * 3 + 3 by omega]
    simp only [flatM, List.take_succ_cons, flatM_take r k]
theorem flatM_drop : ∀ (l : List Msg) (k : Nat), (flatM l).drop (k * 3) = flatM (l.drop k)
  | [], k => by simp [flatM]
  | m :: r, 0 => by simp [flatM]
  | m :: r, k + 1 => by
    rw [show (k + 1) * 3 = k * 3 + 3 by omega]
    simp only [flatM, List.drop_succ_cons, flatM_drop r k]
theorem flatM_get {l : List Msg} {k : Nat} {m : Msg} (h : l[k]? = some m) :
    (flatM l)[k * 3]? = some (.int .i64 m.src) ∧ (flatM l)[k * 3 + 1]? = some (.int .i64 m.dst) ∧ (flatM l)[k * 3 + 2]? = some (.string m.s) := by
  have hd := flatM_drop l k
  obtain ⟨hk, he⟩ := List.getElem?_eq_some_iff.1 h
  rw [List.drop_eq_getElem_cons hk, he] at hd
  have g : ∀ j, (flatM l)[k * 3 + j]? = (flatM (m :: l.drop (k + 1)))[j]? := fun j => by rw [← hd, List.getElem?_drop]
  refine ⟨?_, ?_, ?_⟩
  · rw [show k * 3 = k * 3 + 0 by omega, g]; rfl
  · rw [g]; rfl
  · rw [g]; rfl

/-- The types of blocks that a post's calls write. -/
def isPost (t : TypeId) : Bool := t == 65 || t == 68

def PB (W : World) (p : Nat) (nodes : Int) (rv : Value) : Prop := W.heap[p]? = some (.cells #[.int .i64 nodes, rv] 65 (0, 0))
theorem PB.lt {W : World} {p : Nat} {nodes : Int} {rv : Value} (h : PB W p nodes rv) : p < W.heap.size := (Array.getElem?_eq_some_iff.1 h).1
theorem PB.cells {W : World} {p : Nat} {nodes : Int} {rv : Value} (h : PB W p nodes rv) : W.cell? ⟨p, 0, none⟩ = some (.int .i64 nodes) ∧ W.cell? ⟨p, 1, none⟩ = some rv ∧ ∀ i, W.frozen? ⟨p, i, none⟩ = false := by
  unfold PB at h
  refine ⟨?_, ?_, fun i => ?_⟩ <;> simp [World.cell?, World.frozen?, h]

/-- The messages on their way. -/
def Post (W : World) (base p : Nat) (nodes : Int) (ms : List Msg) : Prop :=
  base ≤ p ∧ ∃ rv, PB W p nodes rv ∧ Seg W base 68 3 rv ms.length (flatM ms)

theorem Post.below {W W' : World} {base p : Nat} {nodes : Int} {ms : List Msg} (h : Post W base p nodes ms) (hB : Below W.heap.size W W') : Post W' base p nodes ms := by
  obtain ⟨hb, rv, h1, h2⟩ := h
  exact ⟨hb, rv, (hB.block p h1.lt).trans h1, h2.below hB⟩
theorem Post.frm {S : TypeId → Bool} {B : Nat} {W W' : World} {base p : Nat} {nodes : Int} {ms : List Msg} (h : Post W base p nodes ms) (hF : Frm S B W W') (h1 : S 65 = false) (h2 : S 68 = false) : Post W' base p nodes ms := by
  obtain ⟨hb, rv, h3, h4⟩ := h
  exact ⟨hb, rv, hF.2 p _ _ _ h3 h1, h4.frm hF h2⟩

theorem PB.ne {W : World} {base p size n : Nat} {nodes : Int} {rv v : Value} {xs : List Value} (h : PB W p nodes rv) (h2 : Seg W base 68 size v n xs) : v.ownBlock ≠ some p := by
  intro e
  obtain ⟨_, _, cur, h3⟩ := h2.own p e
  unfold PB at h
  rw [h] at h3
  simp only [Option.some.injEq, Obj.cells.injEq] at h3
  exact absurd h3.2.1 (by decide)

set_option maxRecDepth 100000 in
theorem new_calls (n : Int) (h1 : 1 ≤ n) (h2 : n ≤ 64) (w : World) : Calls Try.prog 8 #[.int .i64 n] w fun e W => e = .returned (.tuple #[.pointer (some ⟨w.heap.size, 0, none⟩), .int .i64 0]) ∧ Post W w.heap.size w.heap.size n [] ∧ Below w.heap.size w W := by
  go_enter Try.func8, Try.ntmps8
  go_wp2_with fail
  go_ret2
  exact ⟨rfl, ⟨Nat.le_refl _, _, heap_alloc_new w _, Seg.nil _ _ _ _⟩, (Below.refl _ _).alloc (Nat.le_refl _) _⟩

set_option maxRecDepth 100000 in
theorem new_refused (n : Int) (h : ¬ (1 ≤ n ∧ n ≤ 64)) (w : World) : Calls Try.prog 8 #[.int .i64 n] w fun e W => e = .returned (.tuple #[.pointer none, .int .i64 1]) ∧ w = W := by
  rcases (show n < 1 ∨ (1 ≤ n ∧ 64 < n) by omega) with h | ⟨h, h'⟩
  · go_enter Try.func8, Try.ntmps8
    go_wp2_with fail
    go_ret2
    exact ⟨rfl, rfl⟩
  · go_enter Try.func8, Try.ntmps8
    go_wp2_with fail
    go_ret2
    exact ⟨rfl, rfl⟩

set_option maxRecDepth 100000 in
theorem hasNode_yes (p : Nat) (nodes k : Int) (rv : Value) (w : World) (h : PB w p nodes rv) (h0 : 0 ≤ k) (h1 : k < nodes) :
    Calls Try.prog 27 #[.pointer (some ⟨p, 0, none⟩), .int .i64 k] w fun e W => e = .returned (.bool true) ∧ w = W := by
  obtain ⟨c0, c1, _⟩ := h.cells
  have hp := h.lt
  clear h
  go_enter Try.func27, Try.ntmps27
  go_wp2_with fail
  go_ret
  exact ⟨rfl, rfl⟩
set_option maxRecDepth 100000 in
theorem hasNode_no (p : Nat) (nodes k : Int) (rv : Value) (w : World) (h : PB w p nodes rv) (hn : ¬ (0 ≤ k ∧ k < nodes)) :
    Calls Try.prog 27 #[.pointer (some ⟨p, 0, none⟩), .int .i64 k] w fun e W => e = .returned (.bool false) ∧ w = W := by
  obtain ⟨c0, c1, _⟩ := h.cells
  have hp := h.lt
  clear h
  rcases (show k < 0 ∨ (0 ≤ k ∧ nodes ≤ k) by omega) with h | ⟨h, h'⟩
  · clear hn
    go_enter Try.func27, Try.ntmps27
    go_wp2_with fail
    go_ret
    exact ⟨rfl, rfl⟩
  · have hd : decide (k < nodes) = false := decide_eq_false (by omega)
    clear hn h'
    go_enter Try.func27, Try.ntmps27
    go_wp2_with fail
    go_ret
    exact ⟨rfl, rfl⟩

set_option maxRecDepth 100000 in
theorem len_calls (base p : Nat) (nodes : Int) (ms : List Msg) (w : World) (h : Post w base p nodes ms) :
    Calls Try.prog 21 #[.pointer (some ⟨p, 0, none⟩)] w fun e W => e = .returned (.int .i64 (ms.length : Nat)) ∧ w = W := by
  obtain ⟨hb, rv, h1, h2⟩ := h
  obtain ⟨c0, c1, _⟩ := h1.cells
  obtain ⟨A, cap, rfl, _⟩ := h2.form
  have hp := h1.lt
  obtain ⟨n, hn⟩ : ∃ n, ms.length = n := ⟨_, rfl⟩
  rw [hn] at c1 ⊢
  clear h1 h2 hn
  go_enter Try.func21, Try.ntmps21
  go_wp2_with fail
  go_ret
  exact ⟨rfl, rfl⟩
set_option maxRecDepth 100000 in
theorem len_nil (w : World) : Calls Try.prog 21 #[.pointer none] w fun e W => e = .returned (.int .i64 0) ∧ w = W := by
  go_enter Try.func21, Try.ntmps21
  go_wp2_with fail
  go_ret
  exact ⟨rfl, rfl⟩

set_option maxRecDepth 100000 in
theorem refusal_no (base p : Nat) (nodes : Int) (ms : List Msg) (i : Int) (w : World) (h : Post w base p nodes ms) (hi : 0 ≤ i) (hl : i < (ms.length : Nat)) :
    Calls Try.prog 29 #[.pointer (some ⟨p, 0, none⟩), .int .i64 i] w fun e W => e = .returned (.int .i64 0) ∧ w = W := by
  obtain ⟨hb, rv, h1, h2⟩ := h
  obtain ⟨c0, c1, _⟩ := h1.cells
  obtain ⟨A, cap, rfl, _⟩ := h2.form
  have hp := h1.lt
  obtain ⟨n, hn⟩ : ∃ n, ms.length = n := ⟨_, rfl⟩
  rw [hn] at c1 hl
  clear h1 h2 hn
  go_enter Try.func29, Try.ntmps29
  go_wp2_with fail
  go_ret
  exact ⟨rfl, rfl⟩
set_option maxRecDepth 100000 in
theorem refusal_none (base p : Nat) (nodes : Int) (ms : List Msg) (i : Int) (w : World) (h : Post w base p nodes ms) (hi : i < 0 ∨ (ms.length : Nat) ≤ i) :
    Calls Try.prog 29 #[.pointer (some ⟨p, 0, none⟩), .int .i64 i] w fun e W => e = .returned (.int .i64 7) ∧ w = W := by
  obtain ⟨hb, rv, h1, h2⟩ := h
  obtain ⟨c0, c1, _⟩ := h1.cells
  obtain ⟨A, cap, rfl, _⟩ := h2.form
  have hp := h1.lt
  obtain ⟨n, hn⟩ : ∃ n, ms.length = n := ⟨_, rfl⟩
  rw [hn] at c1 hi
  clear h1 h2 hn
  rcases (show i < 0 ∨ (0 ≤ i ∧ (n : Int) ≤ i) by omega) with h | ⟨h, h'⟩
  · clear hi
    go_enter Try.func29, Try.ntmps29
    go_wp2_with fail
    go_ret
    exact ⟨rfl, rfl⟩
  · clear hi
    go_enter Try.func29, Try.ntmps29
    go_wp2_with fail
    go_ret
    exact ⟨rfl, rfl⟩
set_option maxRecDepth 100000 in
theorem refusal_nil (i : Int) (w : World) :
    Calls Try.prog 29 #[.pointer none, .int .i64 i] w fun e W => e = .returned (.int .i64 9) ∧ w = W := by
  go_enter Try.func29, Try.ntmps29
  go_wp2_with fail
  go_ret
  exact ⟨rfl, rfl⟩

end Go.Proofs.Ytjcgkjjomiapoaa.Mail
