/-
  Contract of the iterator that disk's changes hands back: it tells the files and changes of its row.
-/
import Derived.OwnWalkIn
import Derived.TacticsInMore
import Derived.LoopNIn
import Derived.LoopIn
import Derived.Shelf.Abstract
import Derived.Shelf.RegionOpen
import Derived.Test.YtlmohcmnoddncaaToldH
import Derived.Test.YtlmohcmnoddncaaDiskBehind
namespace Go.Proofs.Ytlmohcmnoddncaa.Disk
open Go Go.RowKit Go.Shelf Go.Lib Go.Proofs.Ytlmohcmnoddncaa.Law

attribute [local go_sem] Oper.semAt_some

abbrev encsX (x : Nat × Chg) : Array Value := #[.pointer (some ⟨x.1, 0, none⟩), .agg #[.int .i64 (x.2.n : Nat), .int .i64 (x.2.kind : Nat), .int .i64 (x.2.pos : Nat), .string x.2.s]]

/-- What a round keeps: one block. -/
def KeepB (r : Option Nat) (A B : World) : Prop := A.heap.size ≤ B.heap.size ∧ ∀ k, r = some k → k < A.heap.size → B.heap[k]? = A.heap[k]?
theorem KeepB.trans {r : Option Nat} {A B C : World} (h : KeepB r A B) (k : KeepB r B C) : KeepB r A C := ⟨Nat.le_trans h.1 k.1, fun j hj hl => (k.2 j hj (Nat.lt_of_lt_of_le hl h.1)).trans (h.2 j hj hl)⟩

theorem flatX_at : ∀ (l : List (Nat × Chg)) (i : Nat) (h : i < l.length), (flatX l)[i * 5]? = some (.pointer (some ⟨l[i].1, 0, none⟩)) ∧ (flatX l)[i * 5 + 1]? = some (.int .i64 (l[i].2.n : Nat)) ∧ (flatX l)[i * 5 + 2]? = some (.int .i64 (l[i].2.kind : Nat)) ∧ (flatX l)[i * 5 + 3]? = some (.int .i64 (l[i].2.pos : Nat)) ∧ (flatX l)[i * 5 + 4]? = some (.string l[i].2.s)
  | [], i, h => by simp at h
  | x :: r, 0, _ => ⟨rfl, rfl, rfl, rfl, rfl⟩
  | x :: r, i + 1, h => by
    have := flatX_at r i (by simpa using h)
    have e : (i + 1) * 5 = i * 5 + 5 := by omega
    rw [e]
    exact this
theorem OwnX.cells {W : World} {base : Nat} {A : Option Addr} {n cap : Nat} {l : List (Nat × Chg)} (h : OwnX W base (.slice A n cap) l) (i : Nat) (hi : i < l.length) : n ≤ cap ∧ ∃ g, A = some ⟨g, 0, none⟩ ∧ g < W.heap.size ∧
    W.cell? ⟨g, i * 5, none⟩ = some (.pointer (some ⟨l[i].1, 0, none⟩)) ∧ W.cell? ⟨g, i * 5 + 1, none⟩ = some (.int .i64 (l[i].2.n : Nat)) ∧ W.cell? ⟨g, i * 5 + 2, none⟩ = some (.int .i64 (l[i].2.kind : Nat)) ∧ W.cell? ⟨g, i * 5 + 3, none⟩ = some (.int .i64 (l[i].2.pos : Nat)) ∧ W.cell? ⟨g, i * 5 + 4, none⟩ = some (.string l[i].2.s) := by
  rcases h.2 with ⟨_, h0⟩ | ⟨g, cap', cur, hv, _, hg, hn, hm, hs, ht⟩
  · omega
  · simp only [Value.slice.injEq] at hv
    obtain ⟨rfl, rfl, rfl⟩ := hv
    have hcell : ∀ j u, (flatX l)[j]? = some u → W.cell? ⟨g, j, none⟩ = some u := fun j u hu => by
      have hj : j < l.length * 5 := by have := (List.getElem?_eq_some_iff.1 hu).1; rwa [flatX_length] at this
      simp only [World.cell?, hg, Option.isSome_none, Bool.false_eq_true, if_false]
      rw [← Array.getElem?_toList, ← List.getElem?_take_of_lt hj, ht]
      exact hu
    obtain ⟨f0, f1, f2, f3, f4⟩ := flatX_at l i hi
    exact ⟨hn, g, rfl, (Array.getElem?_eq_some_iff.1 hg).1, hcell _ _ f0, hcell _ _ f1, hcell _ _ f2, hcell _ _ f3, hcell _ _ f4⟩

set_option maxRecDepth 100000 in
set_option maxHeartbeats 4000000 in
theorem iter_in (n : Nat) (hn : 2 ≤ n) (l Bx base B0 : Nat) (v : Value) (L : List (Nat × Chg)) (hlen : L.length ≤ 4294967296) (J Jx : List (Nat × Chg) → World → Prop) (hJ : AbidesFrom B0 J)
    (hY : ∀ pre x W1, J pre W1 → True → (∃ k, pre ++ [x] = L.take k) → pre.length < L.length → YieldAt Fence.wide (n - 1) Try.prog l (encsX x) W1 fun e W' =>
      (e = .returned (.bool true) ∧ J (pre ++ [x]) W' ∧ KeepB v.ownBlock W1 W') ∨ (e = .returned (.bool false) ∧ Jx (pre ++ [x]) W'))
    (W : World) (hbx : BoxX W Bx v) (hO : OwnX W base v L) (h0 : J [] W) :
    CallsIn Fence.wide n Try.prog 61 #[.func (.yield l) #[] #[], .pointer (some ⟨Bx, 0, none⟩)] W fun e W' => (∃ v, e = .returned v) ∧
      ((∃ ys, ys = L ∧ J ys W') ∨ (∃ pre, (∃ k, pre = L.take k) ∧ Jx pre W')) := by
  have hn1 : 1 ≤ n := by omega
  obtain ⟨b0, b1⟩ := hbx.cell
  obtain ⟨A, cap, rfl⟩ := hO.form
  refine callsIn_of_wp Try.func61 rfl trivial ?_ rfl
  simp only [Try.ntmps61, List.size_toArray, List.length_cons, List.length_nil, Nat.reduceAdd, Nat.reduceSub, Array.replicate_succ, Array.replicate_zero, List.push_toArray, List.append_toArray, List.nil_append, List.cons_append]
  have HJ0 := Lib.hid h0
  have HY := Lib.hid hY
  have HO := Lib.hid hO
  obtain ⟨N, hN⟩ : ∃ N, L.length = N := ⟨_, rfl⟩
  have HN := Lib.hid hN
  rw [hN] at b0 hlen HO HY
  clear h0 hY hO hbx hN
  gi_wp2_with fail
  gi_loopw [7] (fun i wr => ∃ k : Nat, i = .int .i64 k ∧ k ≤ N ∧ Hid (J (L.take k) wr) ∧ Hid (OwnX wr base (.slice A N cap) L)) (fun i _ => N - (intOf i).toNat)
  case atStart => exact ⟨0, rfl, Nat.zero_le _, Lib.hid (by rw [List.take_zero]; exact HJ0.out), HO⟩
  case round =>
    obtain ⟨k, rfl, hk, HJk, HOk⟩ := hrel
    by_cases hlt : k < N
    · obtain ⟨x, hx⟩ : ∃ x, L[k]'(by rw [HN.out]; exact hlt) = x := ⟨_, rfl⟩
      obtain ⟨hnc, g, rfl, hg, c0, c1, c2, c3, c4⟩ := HOk.out.cells k (by rw [HN.out]; exact hlt)
      rw [hx] at c0 c1 c2 c3 c4
      obtain ⟨fx, cn, ck, cp, cs⟩ := x
      simp only at c0 c1 c2 c3 c4
      have htk : L.take k ++ [(fx, ⟨cn, ck, cp, cs⟩)] = L.take (k + 1) := by
        rw [List.take_succ_eq_append_getElem (by rw [HN.out]; exact hlt), hx]
      have hlk : (L.take k).length = k := by rw [List.length_take, HN.out]; omega
      have hB0 := (Below.refl wr.heap.size wr).alloc (Nat.le_refl _) (.cells #[.pointer (some ⟨fx, 0, none⟩), .int .i64 (cn : Nat), .int .i64 (ck : Nat), .int .i64 (cp : Nat), .string cs] 104)
      have hJm := hJ _ wr _ none HJk.out (grown_of_below hB0) (fun r e => by cases e)
      obtain ⟨fn, tmps, assign, body, hy, hRd⟩ := HY.out (L.take k) (fx, ⟨cn, ck, cp, cs⟩) _ hJm trivial ⟨_, htk⟩ (by rw [hlk]; exact hlt)
      have HOm := Lib.hid (HOk.out.keep (W' := wr.alloc (.cells #[.pointer (some ⟨fx, 0, none⟩), .int .i64 (cn : Nat), .int .i64 (ck : Nat), .int .i64 (cp : Nat), .string cs] 104)) fun j hj => Below.heap_alloc _ _ _ (HOk.out.own j hj).2)
      have HTK := Lib.hid htk
      have hltI : (k : Int) < (N : Int) := by omega
      have hncI : (N : Int) ≤ (cap : Int) := by omega
      clear hx htk hlk hB0 hJm HJk HOk
      gi_wp2
      refine hRd.mono ?_
      rintro e W3 (⟨rfl, hJ3, hk3⟩ | ⟨rfl, hJx3⟩)
      · have HJ3 := Lib.hid hJ3
        have HO3 := Lib.hid (HOm.out.keep fun j hj => hk3.2 j (by rw [← hj]) (HOm.out.own j hj).2)
        clear hy hRd hk3 hJ3
        gi_wp2
        go_roundw
        case rel => exact ⟨k + 1, by go_num, by omega, Lib.hid (by rw [← HTK.out]; exact HJ3.out), HO3⟩
        case measure => simp [intOf]; omega
      · clear hy hRd
        gi_wp2
        refine bodyPost_ret (results_none rfl _ _ _) rfl ?_
        exact ⟨⟨_, rfl⟩, .inr ⟨_, ⟨_, HTK.out⟩, hJx3⟩⟩
    · obtain rfl : k = N := by omega
      have hall : J L wr := by
        have := HJk.out
        rwa [← HN.out, List.take_length] at this
      have HALL := Lib.hid hall
      have hltI : ¬ (k : Int) < (k : Int) := by omega
      clear hall
      gi_wp2
      go_end0
      exact ⟨⟨_, rfl⟩, .inl HALL.out⟩

theorem iter_stops (n : Nat) (hn : 2 ≤ n) (Bx base : Nat) (v : Value) (L : List (Nat × Chg)) (hlen : L.length ≤ 4294967296) (w : World) (hbx : BoxX w Bx v) (hO : OwnX w base v L) :
    SeqTold Fence.wide n Try.prog 61 #[.pointer (some ⟨Bx, 0, none⟩)] encsX (fun _ _ => True) (KeepB v.ownBlock) (fun ys => ys = L) (fun pre => ∃ k, pre = L.take k) L.length w := by
  intro l J Jx W hW hJ _ hY h0
  exact iter_in n hn l Bx base W.heap.size v L hlen J Jx hJ (fun pre x W1 h1 h2 h3 h4 => hY pre x W1 h1 h2 h3 h4) W ((hW.block Bx (Array.getElem?_eq_some_iff.1 (show w.heap[Bx]? = _ from hbx)).1).trans hbx) (hO.keep fun g hg => hW.block g (hO.own g hg).2) h0

end Go.Proofs.Ytlmohcmnoddncaa.Disk
