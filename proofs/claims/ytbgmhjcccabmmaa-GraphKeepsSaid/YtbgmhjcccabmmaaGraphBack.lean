/-
  Contracts of slices.Backward at operators, and of its iterator: it tells the places from the last one on.
-/
import Derived.Test.YtbgmhjcccabmmaaToldN
import Derived.Test.YtbgmhjcccabmmaaGraphIter
namespace Go.Proofs.Ytbgmhjcccabmmaa.Graph
open Go Go.RowKit Go.Shelf Go.Lib Go.Proofs.Ytbgmhjcccabmmaa.Law

attribute [local go_sem] Oper.semAt_some

/-- What Backward answers: its iterator over a box that has the slice. -/
def RetBack (w : World) (v : Value) (e : Ending) (W : World) : Prop := ∃ B : Nat, e = .returned (.func (.func 31) #[] #[.pointer (some ⟨B, 0, none⟩)]) ∧ W.heap[B]? = some (.cells #[v] 22) ∧ w.heap.size ≤ B ∧ Below w.heap.size w W

set_option maxRecDepth 100000 in
theorem backward_calls (A : Option Addr) (n c : Nat) (w : World) : Calls Try.prog 22 #[.slice A n c] w (RetBack w (.slice A n c)) := by
  have H := Lib.hid (heap_alloc_new w (.cells #[.slice A n c] 22))
  go_enter Try.func22, Try.ntmps22
  go_wp2_with fail
  go_ret
  exact ⟨w.heap.size, rfl, H.out, Nat.le_refl _, alloc_low _ _⟩

abbrev encsB (x : Nat × Value) : Array Value := #[.int .i64 (x.1 : Nat), x.2]
/-- Places from the last one on. -/
def Down (n : Nat) (pre : List (Nat × Value)) : Prop := pre.length ≤ n ∧ ∀ j p, pre[j]? = some p → p.1 + j + 1 = n
theorem Down.nil (n : Nat) : Down n [] := ⟨Nat.zero_le _, fun j p h => by simp at h⟩
theorem Down.snoc {n : Nat} {pre : List (Nat × Value)} (h : Down n pre) {i : Nat} (hi : i + pre.length + 1 = n) (v : Value) : Down n (pre ++ [(i, v)]) := by
  refine ⟨by rw [List.length_append]; simp; omega, fun j p hp => ?_⟩
  by_cases hj : j < pre.length
  · rw [List.getElem?_append_left hj] at hp
    exact h.2 j p hp
  · rw [List.getElem?_append_right (by omega)] at hp
    have h0 : j - pre.length = 0 := by
      have := (List.getElem?_eq_some_iff.1 hp).1
      simp at this
      omega
    rw [h0] at hp
    obtain rfl : (i, v) = p := by simpa using hp
    show i + j + 1 = n
    omega
theorem Down.last {n : Nat} {pre : List (Nat × Value)} {x : Nat × Value} (h : Down n (pre ++ [x])) : x.1 + pre.length + 1 = n := h.2 pre.length x (by simp)

/-- What a round keeps: two blocks. -/
def KeepD (r s : Nat) (A B : World) : Prop := A.heap.size ≤ B.heap.size ∧ B.heap[r]? = A.heap[r]? ∧ B.heap[s]? = A.heap[s]?
theorem KeepD.trans {r s : Nat} {A B C : World} (h : KeepD r s A B) (k : KeepD r s B C) : KeepD r s A C := ⟨Nat.le_trans h.1 k.1, k.2.1.trans h.2.1, k.2.2.trans h.2.2⟩

set_option maxRecDepth 100000 in
set_option maxHeartbeats 4000000 in
theorem back_in (n : Nat) (hn : 2 ≤ n) (l Bx b off N cap : Nat) (L : List Opr) (hN : L.length = N) (_hcap : N ≤ cap) (hlen : N ≤ 4294967296) (B0 : Nat) (J Jx : List (Nat × Value) → World → Prop) (_hJ : AbidesFrom B0 J)
    (hY : ∀ pre x W1, J pre W1 → True → Down N (pre ++ [x]) → pre.length < N → YieldAt Fence.wide (n - 1) Try.prog l (encsB x) W1 fun e W' =>
      (e = .returned (.bool true) ∧ J (pre ++ [x]) W' ∧ KeepD Bx b W1 W') ∨ (e = .returned (.bool false) ∧ Jx (pre ++ [x]) W'))
    (W : World) (hbx : W.heap[Bx]? = some (.cells #[.slice (some ⟨b, off, none⟩) N cap] 22)) (hO : ∀ j x, L[j]? = some x → ∃ u, Cells7 W b (off + j * 7) x u) (h0 : J [] W) :
    CallsIn Fence.wide n Try.prog 31 #[.func (.yield l) #[] #[], .pointer (some ⟨Bx, 0, none⟩)] W fun e W' => (∃ v, e = .returned v) ∧
      ((∃ ys, (Down N ys ∧ ys.length = N) ∧ J ys W') ∨ (∃ pre, Down N pre ∧ Jx pre W')) := by
  have hn1 : 1 ≤ n := by omega
  obtain ⟨b0, b1⟩ := box1 hbx
  refine callsIn_of_wp Try.func31 rfl trivial ?_ rfl
  simp only [Try.ntmps31, List.size_toArray, List.length_cons, List.length_nil, Nat.reduceAdd, Nat.reduceSub, Array.replicate_succ, Array.replicate_zero, List.push_toArray, List.append_toArray, List.nil_append, List.cons_append]
  have HJ0 := Lib.hid h0
  have HY := Lib.hid hY
  have HO := Lib.hid hO
  have HN := Lib.hid hN
  have HBX := Lib.hid hbx
  clear h0 hY hO hbx hN
  gi_wp2_with fail
  gi_loopw [3] (fun i wr => ∃ (k : Nat) (pre : List (Nat × Value)), k ≤ N ∧ i = .int .i64 ((k : Nat) - 1) ∧ Hid (pre.length + k = N ∧ Down N pre ∧ J pre wr ∧ wr.heap[Bx]? = W.heap[Bx]? ∧ wr.heap[b]? = W.heap[b]?)) (fun i _ => (intOf i + 1).toNat)
  case atStart => exact ⟨N, [], Nat.le_refl _, rfl, Lib.hid ⟨by simp, Down.nil _, HJ0.out, rfl, rfl⟩⟩
  case round =>
    obtain ⟨k, pre, hk, rfl, HR⟩ := hrel
    obtain ⟨hpk, hdn, hj, e1, e2⟩ := HR.out
    clear HR
    by_cases hlt : 1 ≤ k
    · obtain ⟨i, rfl⟩ : ∃ i, k = i + 1 := ⟨k - 1, by omega⟩
      have hki : ((i + 1 : Nat) : Int) - 1 = (i : Int) := by omega
      rw [hki]
      obtain ⟨x, hx⟩ : ∃ x, L[i]? = some x := ⟨_, List.getElem?_eq_getElem (by rw [HN.out]; omega)⟩
      obtain ⟨u, hc7⟩ := HO.out i x hx
      obtain ⟨c0, c1, c2, c3, c4, c5, c6⟩ := hc7.keep e2
      obtain ⟨r0, _⟩ := box1 (e1.trans HBX.out)
      have hd2 := hdn.snoc (i := i) (by omega) (opV x u)
      obtain ⟨fn, tmps, assign, body, hy, hRd⟩ := HY.out pre (i, opV x u) _ hj trivial hd2 (by omega)
      have hil : i < N := by omega
      have hiN : (i : Int) < (N : Int) := by omega
      have H1 : Hid ((pre ++ [(i, opV x u)]).length + i = N) := Lib.hid (by rw [List.length_append]; simp; omega)
      have H2 := Lib.hid hd2
      have E1 := Lib.hid e1
      have E2 := Lib.hid e2
      clear hx hc7 hdn hj hd2 e1 e2 hki hpk
      gi_wp2
      refine hRd.mono ?_
      rintro e W3 (⟨rfl, hJ3, hk3⟩ | ⟨rfl, hJx3⟩)
      · have HNX : Hid ((pre ++ [(i, opV x u)]).length + i = N ∧ Down N (pre ++ [(i, opV x u)]) ∧ J (pre ++ [(i, opV x u)]) W3 ∧ W3.heap[Bx]? = W.heap[Bx]? ∧ W3.heap[b]? = W.heap[b]?) := Lib.hid ⟨H1.out, H2.out, hJ3, hk3.2.1.trans E1.out, hk3.2.2.trans E2.out⟩
        clear hy hRd hk3 hJ3
        gi_wp2
        go_roundw
        case rel => exact ⟨i, _, by omega, rfl, HNX⟩
        case measure => simp [intOf]
      · clear hy hRd
        gi_wp2
        refine bodyPost_ret (results_none rfl _ _ _) rfl ?_
        exact ⟨⟨_, rfl⟩, .inr ⟨_, H2.out, hJx3⟩⟩
    · obtain rfl : k = 0 := by omega
      have hdd : decide (0 ≤ ((0 : Nat) : Int) - 1) = false := by decide
      have HF : Hid ((Down N pre ∧ pre.length = N) ∧ J pre wr) := Lib.hid ⟨⟨hdn, by omega⟩, hj⟩
      clear hdn hj e1 e2 hpk
      gi_wp2
      go_end0
      exact ⟨⟨_, rfl⟩, .inl ⟨_, HF.out⟩⟩

theorem back_stops (n : Nat) (hn : 2 ≤ n) (Bx b off N cap : Nat) (L : List Opr) (hN : L.length = N) (hcap : N ≤ cap) (hlen : N ≤ 4294967296) (w : World) (hbx : w.heap[Bx]? = some (.cells #[.slice (some ⟨b, off, none⟩) N cap] 22)) (hb : b < w.heap.size) (hO : ∀ j x, L[j]? = some x → ∃ u, Cells7 w b (off + j * 7) x u) :
    SeqTold Fence.wide n Try.prog 31 #[.pointer (some ⟨Bx, 0, none⟩)] encsB (fun _ _ => True) (KeepD Bx b) (fun ys => Down N ys ∧ ys.length = N) (Down N) N w := by
  intro l J Jx W hW hJ _ hY h0
  exact back_in n hn l Bx b off N cap L hN hcap hlen W.heap.size J Jx hJ (fun pre x W1 h1 h2 h3 h4 => hY pre x W1 h1 h2 h3 h4) W ((hW.block Bx (lt_of_some hbx)).trans hbx)
    (fun j x hx => by obtain ⟨u, hu⟩ := hO j x hx; exact ⟨u, hu.keep (hW.block b hb)⟩) h0

end Go.Proofs.Ytbgmhjcccabmmaa.Graph
