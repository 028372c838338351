/-
  Contract of the iterator that Uses answers: it tells the row.
-/
import Derived.OwnWalkIn
import Derived.TacticsInMore
import Derived.LoopNIn
import Derived.LoopIn
import Derived.Shelf.Abstract
import Derived.Shelf.RegionOpen
import Derived.Test.YtbgmhjcccabmmaaToldH
import Derived.Test.YtbgmhjcccabmmaaGraphUses
namespace Go.Proofs.Ytbgmhjcccabmmaa.Graph
open Go Go.RowKit Go.Shelf Go.Lib Go.Proofs.Ytbgmhjcccabmmaa.Law

attribute [local go_sem] Oper.semAt_some

abbrev encsU (x : Nat × Nat) : Array Value := #[.int .i64 (x.1 : Nat), .int .i64 (x.2 : Nat)]

/-- What a round keeps: one block. -/
def KeepB (r : Option Nat) (A B : World) : Prop := A.heap.size ≤ B.heap.size ∧ ∀ k, r = some k → k < A.heap.size → B.heap[k]? = A.heap[k]?
theorem KeepB.trans {r : Option Nat} {A B C : World} (h : KeepB r A B) (k : KeepB r B C) : KeepB r A C := ⟨Nat.le_trans h.1 k.1, fun j hj hl => (k.2 j hj (Nat.lt_of_lt_of_le hl h.1)).trans (h.2 j hj hl)⟩

set_option maxRecDepth 100000 in
set_option maxHeartbeats 4000000 in
theorem iter_in (n : Nat) (hn : 2 ≤ n) (l Bx base B0 : Nat) (v : Value) (L : List (Nat × Nat)) (hlen : L.length ≤ 4294967296) (J Jx : List (Nat × Nat) → World → Prop) (hJ : AbidesFrom B0 J)
    (hY : ∀ pre x W1, J pre W1 → True → (∃ k, pre ++ [x] = L.take k) → pre.length < L.length → YieldAt Fence.wide (n - 1) Try.prog l (encsU x) W1 fun e W' =>
      (e = .returned (.bool true) ∧ J (pre ++ [x]) W' ∧ KeepB v.ownBlock W1 W') ∨ (e = .returned (.bool false) ∧ Jx (pre ++ [x]) W'))
    (W : World) (hbx : W.heap[Bx]? = some (.cells #[v] 53)) (hO : OwnTwo pf ps 55 W base v L) (h0 : J [] W) :
    CallsIn Fence.wide n Try.prog 21 #[.func (.yield l) #[] #[], .pointer (some ⟨Bx, 0, none⟩)] W fun e W' => (∃ v, e = .returned v) ∧
      ((∃ ys, ys = L ∧ J ys W') ∨ (∃ pre, (∃ k, pre = L.take k) ∧ Jx pre W')) := by
  have hn1 : 1 ≤ n := by omega
  obtain ⟨b0, b1⟩ := box1 hbx
  obtain ⟨A, cap, rfl, _⟩ := hO.form
  refine callsIn_of_wp Try.func21 rfl trivial ?_ rfl
  simp only [Try.ntmps21, List.size_toArray, List.length_cons, List.length_nil, Nat.reduceAdd, Nat.reduceSub, Array.replicate_succ, Array.replicate_zero, List.push_toArray, List.append_toArray, List.nil_append, List.cons_append]
  have HJ0 := Lib.hid h0
  have HY := Lib.hid hY
  have HO := Lib.hid hO
  obtain ⟨N, hN⟩ : ∃ N, L.length = N := ⟨_, rfl⟩
  have HN := Lib.hid hN
  rw [hN] at b0 hlen HO HY
  clear h0 hY hO hbx hN
  gi_wp2_with fail
  gi_loopw [7] (fun i wr => ∃ k : Nat, i = .int .i64 k ∧ k ≤ N ∧ Hid (J (L.take k) wr) ∧ Hid (OwnTwo pf ps 55 wr base (.slice A N cap) L)) (fun i _ => N - (intOf i).toNat)
  case atStart => exact ⟨0, rfl, Nat.zero_le _, Lib.hid (by rw [List.take_zero]; exact HJ0.out), HO⟩
  case round =>
    obtain ⟨k, rfl, hk, HJk, HOk⟩ := hrel
    by_cases hlt : k < N
    · obtain ⟨x, hx⟩ : ∃ x, L[k]'(by rw [HN.out]; exact hlt) = x := ⟨_, rfl⟩
      have hxx : L[k]? = some x := by rw [← hx]; exact List.getElem?_eq_getElem _
      obtain ⟨g, rfl, hnc, hgb, hg, c0, c1⟩ := HOk.out.cell hxx
      obtain ⟨xo, xi⟩ := x
      dsimp only [pf, ps] at c0 c1
      have htk : L.take k ++ [(xo, xi)] = L.take (k + 1) := by
        rw [List.take_succ_eq_append_getElem (by rw [HN.out]; exact hlt), hx]
      have hlk : (L.take k).length = k := by rw [List.length_take, HN.out]; omega
      have hB0 := (Below.refl wr.heap.size wr).alloc (Nat.le_refl _) (.cells #[.int .i64 (xo : Nat), .int .i64 (xi : Nat)] 55)
      have hJm := hJ _ wr _ none HJk.out (grown_of_below hB0) (fun r e => by cases e)
      obtain ⟨fn, tmps, assign, body, hy, hRd⟩ := HY.out (L.take k) (xo, xi) _ hJm trivial ⟨_, htk⟩ (by rw [hlk]; exact hlt)
      have HOm := Lib.hid (HOk.out.keep (W' := wr.alloc (.cells #[.int .i64 (xo : Nat), .int .i64 (xi : Nat)] 55)) fun j hj => Below.heap_alloc _ _ _ (HOk.out.own hj).2)
      have HTK := Lib.hid htk
      have hltI : (k : Int) < (N : Int) := by omega
      have hncI : (N : Int) ≤ (cap : Int) := by omega
      clear hx hxx htk hlk hB0 hJm HJk HOk
      gi_wp2
      refine hRd.mono ?_
      rintro e W3 (⟨rfl, hJ3, hk3⟩ | ⟨rfl, hJx3⟩)
      · have HJ3 := Lib.hid hJ3
        have HO3 := Lib.hid (HOm.out.keep fun j hj => hk3.2 j (by rw [← hj]) (HOm.out.own hj).2)
        clear hy hRd hk3 hJ3
        gi_wp2
        go_roundw
        case rel => exact ⟨k + 1, by go_num, by omega, Lib.hid (by rw [← HTK.out]; exact HJ3.out), HO3⟩
        case measure => simp [intOf]; omega
      · clear hy hRd
        gi_wp2
        refine bodyPost_ret (results_none rfl _ _ _) rfl ?_
        exact ⟨⟨_, rfl⟩, .inr ⟨_, ⟨_, HTK.out⟩, hJx3⟩⟩
    · obtain rfl : k = N := by omega
      have hall : J L wr := by
        have := HJk.out
        rwa [← HN.out, List.take_length] at this
      have HALL := Lib.hid hall
      have hltI : ¬ (k : Int) < (k : Int) := by omega
      clear hall
      gi_wp2
      go_end0
      exact ⟨⟨_, rfl⟩, .inl HALL.out⟩

theorem iter_stops (n : Nat) (hn : 2 ≤ n) (Bx base : Nat) (v : Value) (L : List (Nat × Nat)) (hlen : L.length ≤ 4294967296) (w : World) (hbx : w.heap[Bx]? = some (.cells #[v] 53)) (hO : OwnTwo pf ps 55 w base v L) :
    SeqTold Fence.wide n Try.prog 21 #[.pointer (some ⟨Bx, 0, none⟩)] encsU (fun _ _ => True) (KeepB v.ownBlock) (fun ys => ys = L) (fun pre => ∃ k, pre = L.take k) L.length w := by
  intro l J Jx W hW hJ _ hY h0
  exact iter_in n hn l Bx base W.heap.size v L hlen J Jx hJ (fun pre x W1 h1 h2 h3 h4 => hY pre x W1 h1 h2 h3 h4) W ((hW.block Bx (lt_of_some hbx)).trans hbx) (hO.keep fun g hg => hW.block g (hO.own hg).2) h0

end Go.Proofs.Ytbgmhjcccabmmaa.Graph
