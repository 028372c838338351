/-
  Put together out of texts of one chain: what they hold stands ahead of each.
-/
import Derived.OwnWalkIn
import Derived.TacticsInMore
import Derived.LoopNIn
import Derived.LoopIn
import Derived.Shelf.Abstract
import Derived.Shelf.RegionOpen
import Derived.Test.YtnhkpemajknfnaaGreatDoorToldH
import Derived.Test.YtnhkpemajknfnaaGreatDoorGSeglogHeads06
/-
  Contract of the iterator that disk's changes hands back: it tells the files and changes of its row.
-/
namespace Go.Proofs.YtnhkpemajknfnaaGreatDoor.Disk
open Go Go.RowKit Go.Shelf Go.Lib Go.Proofs.YtnhkpemajknfnaaGreatDoor.Law

attribute [local go_sem] Oper.semAt_some

abbrev encsX (x : Nat × Chg) : Array Value := #[.pointer (some ⟨x.1, 0, none⟩), .agg #[.int .i64 (x.2.n : Nat), .int .i64 (x.2.kind : Nat), .int .i64 (x.2.pos : Nat), .string x.2.s]]

/-- What a round keeps: one block. -/
def KeepB (r : Option Nat) (A B : World) : Prop := A.heap.size ≤ B.heap.size ∧ ∀ k, r = some k → k < A.heap.size → B.heap[k]? = A.heap[k]?
theorem KeepB.trans {r : Option Nat} {A B C : World} (h : KeepB r A B) (k : KeepB r B C) : KeepB r A C := ⟨Nat.le_trans h.1 k.1, fun j hj hl => (k.2 j hj (Nat.lt_of_lt_of_le hl h.1)).trans (h.2 j hj hl)⟩

theorem flatX_at : ∀ (l : List (Nat × Chg)) (i : Nat) (h : i < l.length), (flatX l)[i * 5]? = some (.pointer (some ⟨l[i].1, 0, none⟩)) ∧ (flatX l)[i * 5 + 1]? = some (.int .i64 (l[i].2.n : Nat)) ∧ (flatX l)[i * 5 + 2]? = some (.int .i64 (l[i].2.kind : Nat)) ∧ (flatX l)[i * 5 + 3]? = some (.int .i64 (l[i].2.pos : Nat)) ∧ (flatX l)[i * 5 + 4]? = some (.string l[i].2.s)
  | [], i, h => by simp at h
  | x :: r, 0, _ => ⟨rfl, rfl, rfl, rfl, rfl⟩
  | x :: r, i + 1, h => by
    have := flatX_at r i (by simpa using h)
    have e : (i + 1) * 5 = i * 5 + 5 := by omega
    rw [e]
    exact this
theorem OwnX.cells {W : World} {base : Nat} {A : Option Addr} {n cap : Nat} {l : List (Nat × Chg)} (h : OwnX W base (.slice A n cap) l) (i : Nat) (hi : i < l.length) : n ≤ cap ∧ ∃ g, A = some ⟨g, 0, none⟩ ∧ g < W.heap.size ∧
    W.cell? ⟨g, i * 5, none⟩ = some (.pointer (some ⟨l[i].1, 0, none⟩)) ∧ W.cell? ⟨g, i * 5 + 1, none⟩ = some (.int .i64 (l[i].2.n : Nat)) ∧ W.cell? ⟨g, i * 5 + 2, none⟩ = some (.int .i64 (l[i].2.kind : Nat)) ∧ W.cell? ⟨g, i * 5 + 3, none⟩ = some (.int .i64 (l[i].2.pos : Nat)) ∧ W.cell? ⟨g, i * 5 + 4, none⟩ = some (.string l[i].2.s) := by
  rcases h.2 with ⟨_, h0⟩ | ⟨g, cap', cur, hv, _, hg, hn, hm, hs, ht⟩
  · omega
  · simp only [Value.slice.injEq] at hv
    obtain ⟨rfl, rfl, rfl⟩ := hv
    have hcell : ∀ j u, (flatX l)[j]? = some u → W.cell? ⟨g, j, none⟩ = some u := fun j u hu => by
      have hj : j < l.length * 5 := by have := (List.getElem?_eq_some_iff.1 hu).1; rwa [flatX_length] at this
      simp only [World.cell?, hg, Option.isSome_none, Bool.false_eq_true, if_false]
      rw [← Array.getElem?_toList, ← List.getElem?_take_of_lt hj, ht]
      exact hu
    obtain ⟨f0, f1, f2, f3, f4⟩ := flatX_at l i hi
    exact ⟨hn, g, rfl, (Array.getElem?_eq_some_iff.1 hg).1, hcell _ _ f0, hcell _ _ f1, hcell _ _ f2, hcell _ _ f3, hcell _ _ f4⟩

set_option maxRecDepth 100000 in
set_option maxHeartbeats 4000000 in
theorem iter_in (n : Nat) (hn : 2 ≤ n) (l Bx base B0 : Nat) (v : Value) (L : List (Nat × Chg)) (hlen : L.length ≤ 4294967296) (J Jx : List (Nat × Chg) → World → Prop) (hJ : AbidesFrom B0 J)
    (hY : ∀ pre x W1, J pre W1 → True → (∃ k, pre ++ [x] = L.take k) → pre.length < L.length → YieldAt Fence.wide (n - 1) Tryz.prog l (encsX x) W1 fun e W' =>
      (e = .returned (.bool true) ∧ J (pre ++ [x]) W' ∧ KeepB v.ownBlock W1 W') ∨ (e = .returned (.bool false) ∧ Jx (pre ++ [x]) W'))
    (W : World) (hbx : BoxX W Bx v) (hO : OwnX W base v L) (h0 : J [] W) :
    CallsIn Fence.wide n Tryz.prog 65 #[.func (.yield l) #[] #[], .pointer (some ⟨Bx, 0, none⟩)] W fun e W' => (∃ v, e = .returned v) ∧
      ((∃ ys, ys = L ∧ J ys W') ∨ (∃ pre, (∃ k, pre = L.take k) ∧ Jx pre W')) := by
  have hn1 : 1 ≤ n := by omega
  obtain ⟨b0, b1⟩ := hbx.cell
  obtain ⟨A, cap, rfl⟩ := hO.form
  refine callsIn_of_wp Tryz.func65 rfl trivial ?_ rfl
  simp only [Tryz.ntmps65, List.size_toArray, List.length_cons, List.length_nil, Nat.reduceAdd, Nat.reduceSub, Array.replicate_succ, Array.replicate_zero, List.push_toArray, List.append_toArray, List.nil_append, List.cons_append]
  have HJ0 := Lib.hid h0
  have HY := Lib.hid hY
  have HO := Lib.hid hO
  obtain ⟨N, hN⟩ : ∃ N, L.length = N := ⟨_, rfl⟩
  have HN := Lib.hid hN
  rw [hN] at b0 hlen HO HY
  clear h0 hY hO hbx hN
  gi_wp2_with fail
  gi_loopw [7] (fun i wr => ∃ k : Nat, i = .int .i64 k ∧ k ≤ N ∧ Hid (J (L.take k) wr) ∧ Hid (OwnX wr base (.slice A N cap) L)) (fun i _ => N - (intOf i).toNat)
  case atStart => exact ⟨0, rfl, Nat.zero_le _, Lib.hid (by rw [List.take_zero]; exact HJ0.out), HO⟩
  case round =>
    obtain ⟨k, rfl, hk, HJk, HOk⟩ := hrel
    by_cases hlt : k < N
    · obtain ⟨x, hx⟩ : ∃ x, L[k]'(by rw [HN.out]; exact hlt) = x := ⟨_, rfl⟩
      obtain ⟨hnc, g, rfl, hg, c0, c1, c2, c3, c4⟩ := HOk.out.cells k (by rw [HN.out]; exact hlt)
      rw [hx] at c0 c1 c2 c3 c4
      obtain ⟨fx, cn, ck, cp, cs⟩ := x
      simp only at c0 c1 c2 c3 c4
      have htk : L.take k ++ [(fx, ⟨cn, ck, cp, cs⟩)] = L.take (k + 1) := by
        rw [List.take_succ_eq_append_getElem (by rw [HN.out]; exact hlt), hx]
      have hlk : (L.take k).length = k := by rw [List.length_take, HN.out]; omega
      have hB0 := (Below.refl wr.heap.size wr).alloc (Nat.le_refl _) (.cells #[.pointer (some ⟨fx, 0, none⟩), .int .i64 (cn : Nat), .int .i64 (ck : Nat), .int .i64 (cp : Nat), .string cs] 108)
      have hJm := hJ _ wr _ none HJk.out (grown_of_below hB0) (fun r e => by cases e)
      obtain ⟨fn, tmps, assign, body, hy, hRd⟩ := HY.out (L.take k) (fx, ⟨cn, ck, cp, cs⟩) _ hJm trivial ⟨_, htk⟩ (by rw [hlk]; exact hlt)
      have HOm := Lib.hid (HOk.out.keep (W' := wr.alloc (.cells #[.pointer (some ⟨fx, 0, none⟩), .int .i64 (cn : Nat), .int .i64 (ck : Nat), .int .i64 (cp : Nat), .string cs] 108)) fun j hj => Below.heap_alloc _ _ _ (HOk.out.own j hj).2)
      have HTK := Lib.hid htk
      have hltI : (k : Int) < (N : Int) := by omega
      have hncI : (N : Int) ≤ (cap : Int) := by omega
      clear hx htk hlk hB0 hJm HJk HOk
      gi_wp2
      refine hRd.mono ?_
      rintro e W3 (⟨rfl, hJ3, hk3⟩ | ⟨rfl, hJx3⟩)
      · have HJ3 := Lib.hid hJ3
        have HO3 := Lib.hid (HOm.out.keep fun j hj => hk3.2 j (by rw [← hj]) (HOm.out.own j hj).2)
        clear hy hRd hk3 hJ3
        gi_wp2
        go_roundw
        case rel => exact ⟨k + 1, by go_num, by omega, Lib.hid (by rw [← HTK.out]; exact HJ3.out), HO3⟩
        case measure => simp [intOf]; omega
      · clear hy hRd
        gi_wp2
        refine bodyPost_ret (results_none rfl _ _ _) rfl ?_
        exact ⟨⟨_, rfl⟩, .inr ⟨_, ⟨_, HTK.out⟩, hJx3⟩⟩
    · obtain rfl : k = N := by omega
      have hall : J L wr := by
        have := HJk.out
        rwa [← HN.out, List.take_length] at this
      have HALL := Lib.hid hall
      have hltI : ¬ (k : Int) < (k : Int) := by omega
      clear hall
      gi_wp2
      go_end0
      exact ⟨⟨_, rfl⟩, .inl HALL.out⟩

theorem iter_stops (n : Nat) (hn : 2 ≤ n) (Bx base : Nat) (v : Value) (L : List (Nat × Chg)) (hlen : L.length ≤ 4294967296) (w : World) (hbx : BoxX w Bx v) (hO : OwnX w base v L) :
    SeqTold Fence.wide n Tryz.prog 65 #[.pointer (some ⟨Bx, 0, none⟩)] encsX (fun _ _ => True) (KeepB v.ownBlock) (fun ys => ys = L) (fun pre => ∃ k, pre = L.take k) L.length w := by
  intro l J Jx W hW hJ _ hY h0
  exact iter_in n hn l Bx base W.heap.size v L hlen J Jx hJ (fun pre x W1 h1 h2 h3 h4 => hY pre x W1 h1 h2 h3 h4) W ((hW.block Bx (Array.getElem?_eq_some_iff.1 (show w.heap[Bx]? = _ from hbx)).1).trans hbx) (hO.keep fun g hg => hW.block g (hO.own g hg).2) h0

end Go.Proofs.YtnhkpemajknfnaaGreatDoor.Disk

/-
  A disk in the middle of a crash: what is said of its files while the changes come upon them, and while they are settled one by one.
-/
namespace Go.Proofs.YtnhkpemajknfnaaGreatDoor.Disk
open Go Go.RowKit Go.Lib Go.Proofs.YtnhkpemajknfnaaGreatDoor.Law

/-- The durable files behind a crash's first k changes. -/
def crashTo (picks : List Int) (l : List (ByteArray × Chg)) (f : ByteArray → Option (List Nat)) : Nat → ByteArray → Option (List Nat)
  | 0 => f
  | k + 1 => match l[k]? with
    | some x => upd (crashTo picks l f k) x.1 (behindD x.2 (picks.getD k 0) (crashTo picks l f k x.1))
    | none => crashTo picks l f k
def DS.crashSafe (D : DS) (picks : List Int) : ByteArray → Option (List Nat) := crashTo picks D.chs D.safe D.chs.length
/-- The disk behind a crash. -/
def DS.crash (D : DS) (picks : List Int) : DS :=
  { D with used := total D.names (D.crashSafe picks), fails := false, names := D.names.filter fun s => (D.crashSafe picks s).isSome, now := D.crashSafe picks, safe := D.crashSafe picks, chs := [] }

theorem behindD_size {c : Chg} (hc : c.pos + c.s.size ≤ 1073741824) (p : Int) {o : Option (List Nat)} (ho : szO o ≤ 1073741824) : szO (behindD c p o) ≤ 1073741824 := by
  unfold behindD
  by_cases h0 : c.kind = 0
  · rw [if_pos h0]
    by_cases h1 : 0 < min p (c.s.size : Int) ∧ c.pos ≤ szO o
    · rw [if_pos h1]
      show (overL _ _ _).length ≤ _
      rw [overL_length _ _ (by rw [szO_getD]; exact h1.2), szO_getD, List.length_take, bytesS_length]
      omega
    · rw [if_neg h1]; exact ho
  · rw [if_neg h0]
    by_cases h1 : c.kind = 1
    · rw [if_pos h1]
      by_cases h2 : 0 < p ∧ c.pos < szO o
      · rw [if_pos h2]
        show (List.take _ _).length ≤ _
        rw [List.length_take, szO_getD]; omega
      · rw [if_neg h2]; exact ho
    · rw [if_neg h1]
      by_cases h2 : 0 < p
      · rw [if_pos h2]; exact Nat.zero_le _
      · rw [if_neg h2]; exact ho
theorem crashTo_size {picks : List Int} {l : List (ByteArray × Chg)} {f : ByteArray → Option (List Nat)} (hl : ∀ x ∈ l, x.2.pos + x.2.s.size ≤ 1073741824) (hf : ∀ s, szO (f s) ≤ 1073741824) : ∀ k s, szO (crashTo picks l f k s) ≤ 1073741824
  | 0, s => hf s
  | k + 1, s => by
    unfold crashTo
    cases hx : l[k]? with
    | none => exact crashTo_size hl hf k s
    | some x =>
      dsimp only
      by_cases hs : s = x.1
      · subst hs
        rw [upd_same]
        exact behindD_size (hl x (List.mem_of_getElem? hx)) _ (crashTo_size hl hf k x.1)
      · rw [upd_other _ _ hs]; exact crashTo_size hl hf k s
theorem crashTo_out {picks : List Int} {l : List (ByteArray × Chg)} {f : ByteArray → Option (List Nat)} {s : ByteArray} (hl : ∀ x ∈ l, x.1 ≠ s) : ∀ k, crashTo picks l f k s = f s
  | 0 => rfl
  | k + 1 => by
    unfold crashTo
    cases hx : l[k]? with
    | none => exact crashTo_out hl k
    | some x =>
      dsimp only
      rw [upd_other _ _ (fun e => hl x (List.mem_of_getElem? hx) e.symm)]
      exact crashTo_out hl k
theorem crashTo_succ {picks : List Int} {l : List (ByteArray × Chg)} {f : ByteArray → Option (List Nat)} {k : Nat} {x : ByteArray × Chg} (hx : l[k]? = some x) :
    crashTo picks l f (k + 1) = upd (crashTo picks l f k) x.1 (behindD x.2 (picks.getD k 0) (crashTo picks l f k x.1)) := by
  conv => lhs; unfold crashTo
  rw [hx]

theorem WF.crashSz {D : DS} (h : WF D) (picks : List Int) (k : Nat) (s : ByteArray) : szO (crashTo picks D.chs D.safe k s) ≤ 1073741824 := crashTo_size h.chSz h.safeLe k s
theorem WF.crashOut {D : DS} (h : WF D) (picks : List Int) (k : Nat) {s : ByteArray} (hs : s ∉ D.names) : crashTo picks D.chs D.safe k s = none := by
  rw [crashTo_out (s := s) (fun x hx e => hs (by rw [← e]; exact (h.names x.1).2 (.inr (.inr ⟨x.2, hx⟩)))) k]
  exact (h.gone hs).2.1

theorem total_filter (f : ByteArray → Option (List Nat)) : ∀ names : List ByteArray, total (names.filter fun s => (f s).isSome) f = total names f
  | [] => rfl
  | a :: l => by
    have ih := total_filter f l
    unfold total at ih ⊢
    by_cases ha : (f a).isSome = true
    · rw [List.filter_cons_of_pos (by simpa using ha), List.map_cons, List.map_cons, List.sum_cons, List.sum_cons, ih]
    · rw [List.filter_cons_of_neg (by simpa using ha), List.map_cons, List.sum_cons, ih]
      have : f a = none := by simpa using ha
      rw [this]; simp [szO]

theorem WF.crash {D : DS} (h : WF D) (picks : List Int) : WF (D.crash picks) := by
  have hsz : ∀ s b, D.crashSafe picks s = some b → b.length ≤ 1073741824 := fun s b hb => by
    have := h.crashSz picks D.chs.length s
    unfold DS.crashSafe at hb
    rw [hb] at this; exact this
  constructor
  · exact h.nodup.filter _
  · intro s
    show s ∈ D.names.filter _ ↔ D.crashSafe picks s ≠ none ∨ D.crashSafe picks s ≠ none ∨ ∃ c, (s, c) ∈ []
    rw [List.mem_filter]
    constructor
    · rintro ⟨_, h2⟩
      exact .inl (by intro e; rw [e] at h2; cases h2)
    · rintro (h2 | h2 | ⟨c, hc⟩)
      · exact ⟨Classical.byContradiction fun hs => h2 (h.crashOut picks _ hs), by cases hq : D.crashSafe picks s with
          | none => exact absurd hq h2
          | some b => rfl⟩
      · exact ⟨Classical.byContradiction fun hs => h2 (h.crashOut picks _ hs), by cases hq : D.crashSafe picks s with
          | none => exact absurd hq h2
          | some b => rfl⟩
      · cases hc
  · exact fun s hs => h.right s (List.mem_filter.1 hs).1
  · exact Nat.le_trans (List.length_filter_le _ _) h.count
  · exact hsz
  · exact hsz
  · exact fun x hx => by cases hx
  · exact List.Pairwise.nil
  · exact fun x hx => by cases hx
  · exact fun x hx => by cases hx
  · exact Nat.zero_le _
  · exact h.room
  · exact (total_filter _ _).symm

/-- A file in the middle: what is durable of it; behind d as it is settled. -/
def FileMid (W : World) (O' : Owner) (base : Nat) (s : ByteArray) (fb : Nat) (o : Option (List Nat)) (d : Prop) : Prop :=
  ∃ nt nv sh cv A c, FB W fb nt nv o.isSome (.slice A (szO o) c) sh cv ∧ Buf W base 5 (.slice A (szO o) c) (o.getD []) ∧ O' fb = some (some s) ∧ (∀ g, (Value.slice A (szO o) c).ownBlock = some g → O' g = some (some s)) ∧
    (d → nt = o.isSome ∧ nv = .slice A (szO o) c ∧ sh = true ∧ cv = .slice none 0 0)

/-- The disk's files in the middle. -/
structure Mid (w : World) (O : Owner) (base n1 : Nat) (names : List ByteArray) (F : ByteArray → Option Nat) (st : ByteArray → Option (List Nat)) (rest : List ByteArray) (O' : Owner) (W : World) : Prop where
  old : ∀ k, k < w.heap.size → O' k = O k
  new : ∀ k, O' k ≠ none → k < w.heap.size ∨ n1 ≤ k
  lt : ∀ k, O' k ≠ none → k < W.heap.size
  files : ∀ s ∈ names, (s ∈ rest ∨ st s ≠ none) → ∃ fb, F s = some fb ∧ fb < w.heap.size ∧ FileMid W O' base s fb (st s) (s ∉ rest)
  same : ∀ k, k < w.heap.size → O k = none → W.heap[k]? = w.heap[k]?
  os : W.os = w.os
  tape : W.tape = w.tape
  output : W.output = w.output
  size : w.heap.size ≤ W.heap.size
  n1 : n1 ≤ W.heap.size

section
variable {w W W' : World} {O O' : Owner} {base n1 : Nat} {names : List ByteArray} {F : ByteArray → Option Nat} {st : ByteArray → Option (List Nat)} {rest : List ByteArray}

theorem FileMid.keep {s : ByteArray} {fb : Nat} {o : Option (List Nat)} {d : Prop} (h : FileMid W O' base s fb o d) (hk : ∀ k cur t z, W.heap[k]? = some (.cells cur t z) → O' k = some (some s) → W'.heap[k]? = W.heap[k]?) : FileMid W' O' base s fb o d := by
  obtain ⟨nt, nv, sh, cv, A, c, h1, h2, h3, h4, h5⟩ := h
  refine ⟨nt, nv, sh, cv, A, c, (hk fb _ _ _ h1 h3).trans h1, ?_, h3, h4, h5⟩
  refine h2.keep fun g hg => ?_
  rcases h2.2 with ⟨h6, _⟩ | ⟨g', cap, cur, h6, _, h7, _⟩
  · rw [h6] at hg; cases hg
  · have : g' = g := by rw [h6] at hg; simpa [Value.ownBlock] using hg
    subst this
    exact hk _ _ _ _ h7 (h4 _ hg)

/-- A turn that leaves the files' cells. -/
theorem Mid.keep (h : Mid w O base n1 names F st rest O' W) (hs : W.heap.size ≤ W'.heap.size) (hk : ∀ k cur t z s, W.heap[k]? = some (.cells cur t z) → O' k = some (some s) → W'.heap[k]? = W.heap[k]?)
    (hb : ∀ k, k < w.heap.size → O k = none → W'.heap[k]? = W.heap[k]?) (hos : W'.os = W.os) (htp : W'.tape = W.tape) (hout : W'.output = W.output) : Mid w O base n1 names F st rest O' W' :=
  ⟨h.old, h.new, fun k hk => Nat.lt_of_lt_of_le (h.lt k hk) hs, fun s hsn hr => by
    obtain ⟨fb, h1, h2, h3⟩ := h.files s hsn hr
    exact ⟨fb, h1, h2, h3.keep fun k cur t z hc ho => hk k cur t z s hc ho⟩, fun k hk ho => (hb k hk ho).trans (h.same k hk ho), hos.trans h.os, htp.trans h.tape, hout.trans h.output, Nat.le_trans h.size hs, Nat.le_trans h.n1 hs⟩
theorem Mid.grown {row : Option Nat} (h : Mid w O base n1 names F st rest O' W) (hg : W.grownBy W' row) (hr : ∀ r, row = some r → w.heap.size ≤ r ∧ ∃ o : Obj, W.heap[r]? = some o ∧ o.isCells = false) : Mid w O base n1 names F st rest O' W' := by
  refine h.keep hg.size (fun k cur t z s hc _ => hg.block k (Array.getElem?_eq_some_iff.1 hc).1 fun e => ?_) (fun k hk _ => hg.block k (Nat.lt_of_lt_of_le hk h.size) fun e => ?_) hg.os hg.tape hg.output
  · obtain ⟨_, o, ho, hc2⟩ := hr k e.symm
    rw [hc] at ho
    obtain rfl := (Option.some.inj ho).symm
    cases hc2
  · have := (hr k e.symm).1; omega
theorem Mid.below (h : Mid w O base n1 names F st rest O' W) (hB : Below W.heap.size W W') : Mid w O base n1 names F st rest O' W' := h.grown (grown_of_below hB) (fun r e => by cases e)

/-- One file turned: its durable bytes. -/
theorem Mid.turn (h : Mid w O base n1 names F st names O' W) {s : ByteArray} {fb : Nat} (hF : F s = some fb) {nt : Bool} {nv : Value} {sh : Bool} {cv sv : Value} {o' : Option (List Nat)} {A : Option Addr} {c : Nat} (hO : O' fb = some (some s))
    (hfile : FB W' fb nt nv o'.isSome (.slice A (szO o') c) sh cv) (hbuf : Buf W' base 5 (.slice A (szO o') c) (o'.getD [])) (hsv : ∀ g, sv.ownBlock = some g → O' g = some (some s))
    (hown : ∀ g, (Value.slice A (szO o') c).ownBlock = some g → sv.ownBlock = some g ∨ W.heap.size ≤ g) (hold : ∀ k, k < W.heap.size → k ≠ fb → sv.ownBlock ≠ some k → W'.heap[k]? = W.heap[k]?) (hs : W.heap.size ≤ W'.heap.size) (hos : W'.os = W.os) (htp : W'.tape = W.tape) (hout : W'.output = W.output) :
    Mid w O base n1 names F (upd st s o') names (own O' W.heap.size W'.heap.size s) W' := by
  have hfo : ∀ k, O' k ≠ some (some s) → k < W.heap.size → W'.heap[k]? = W.heap[k]? := fun k hk hl => hold k hl (fun e => hk (by rw [e]; exact hO)) (fun e => hk (hsv k e))
  refine ⟨fun k hk => (own_old (Nat.lt_of_lt_of_le hk h.size)).trans (h.old k hk), fun k hk => ?_, fun k hk => ?_, fun x hx _ => ?_, fun k hk ho => ?_, hos.trans h.os, htp.trans h.tape, hout.trans h.output, Nat.le_trans h.size hs, Nat.le_trans h.n1 hs⟩
  · by_cases hn : W.heap.size ≤ k ∧ k < W'.heap.size
    · exact .inr (Nat.le_trans h.n1 hn.1)
    · have e : own O' W.heap.size W'.heap.size s k = O' k := if_neg hn
      rw [e] at hk
      exact h.new k hk
  · by_cases hn : W.heap.size ≤ k ∧ k < W'.heap.size
    · exact hn.2
    · have e : own O' W.heap.size W'.heap.size s k = O' k := if_neg hn
      rw [e] at hk
      exact Nat.lt_of_lt_of_le (h.lt k hk) hs
  · by_cases hxs : x = s
    · subst hxs
      obtain ⟨fx, h1, h2, _⟩ := h.files x hx (.inl hx)
      rw [hF] at h1
      obtain rfl := Option.some.inj h1
      refine ⟨fb, hF, h2, ?_⟩
      rw [upd_same]
      refine ⟨nt, nv, sh, cv, A, c, hfile, hbuf, (own_old (Nat.lt_of_lt_of_le h2 h.size)).trans hO, fun g hg => ?_, fun hd => absurd hx hd⟩
      rcases hown g hg with h3 | h3
      · have h4 := hsv g h3
        rw [own_old (h.lt g (by rw [h4]; simp))]; exact h4
      · have := (hbuf.own g hg).2
        exact own_new h3 this
    · obtain ⟨fx, h1, h2, h3⟩ := h.files x hx (.inl hx)
      refine ⟨fx, h1, h2, ?_⟩
      rw [upd_other _ _ hxs]
      obtain ⟨nt, nv, sh, cv, A, c, h4, h5, h6, h7, h8⟩ := h3.keep (W' := W') fun k cur t z hc ho => hfo k (by rw [ho]; simpa using hxs) (Array.getElem?_eq_some_iff.1 hc).1
      refine ⟨nt, nv, sh, cv, A, c, h4, h5, (own_old (Nat.lt_of_lt_of_le h2 h.size)).trans h6, fun g hg => ?_, h8⟩
      have h9 := h7 g hg
      rw [own_old (h.lt g (by rw [h9]; simp))]; exact h9
  · have : O' k ≠ some (some s) := by rw [h.old k hk, ho]; simp
    rw [hfo k this (Nat.lt_of_lt_of_le hk h.size)]
    exact h.same k hk ho
end

/-- The start. -/
theorem Mid.start {w W : World} {O : Owner} {db mb : Nat} {D : DS} {F : ByteArray → Option Nat} (hc : Core w O db mb D F) (hf : ∀ s ∈ D.names, ∃ fb, F s = some fb ∧ FileAt w O (db + 1) s fb (D.now s) (D.safe s) (mine s D.chs)) (hB : Below w.heap.size w W) :
    Mid w O (db + 1) W.heap.size D.names F D.safe D.names O W := by
  refine ⟨fun _ _ => rfl, fun k hk => .inl (hc.lt k hk), fun k hk => Nat.lt_of_lt_of_le (hc.lt k hk) hB.size, fun s hs _ => ?_, fun k hk _ => hB.block k hk, hB.os, hB.tape, hB.output, hB.size, Nat.le_refl _⟩
  obtain ⟨fb, h1, h2⟩ := hf s hs
  obtain ⟨v, v1, v2, v3, v4, v5, v6, v7⟩ := h2.vals
  exact ⟨fb, h1, v1.lt, _, _, _, _, _, _, v1.below hB, v3.below hB, v6, fun g hg => v7 g (.inr (.inl hg)), fun hd => absurd hs hd⟩

end Go.Proofs.YtnhkpemajknfnaaGreatDoor.Disk

/-
  A crash: one change comes upon a file; one file is settled; the disk behind it.
-/
namespace Go.Proofs.YtnhkpemajknfnaaGreatDoor.Disk
open Go Go.RowKit Go.Lib Go.Proofs.YtnhkpemajknfnaaGreatDoor.Law

/-- Numbers that a slice tells, in a block of which Q holds. -/
def Ints (Q : Nat → Prop) (W : World) (v : Value) (ps : List Int) : Prop :=
  ∃ A cap, v = .slice A ps.length cap ∧ ps.length ≤ cap ∧ (0 < ps.length → ∃ b off, A = some ⟨b, off, none⟩ ∧ Q b ∧ ∀ j, j < ps.length → W.cell? ⟨b, off + j, none⟩ = some (.int .i64 (ps.getD j 0)))
theorem Ints.at {Q : Nat → Prop} {W W' : World} {v : Value} {ps : List Int} (h : Ints Q W v ps) (hk : ∀ b, Q b → W'.heap[b]? = W.heap[b]?) : Ints Q W' v ps := by
  obtain ⟨A, cap, h1, h2, h3⟩ := h
  refine ⟨A, cap, h1, h2, fun hp => ?_⟩
  obtain ⟨b, off, h4, h5, h6⟩ := h3 hp
  refine ⟨b, off, h4, h5, fun j hj => ?_⟩
  have := h6 j hj
  simp only [World.cell?, hk b h5] at this ⊢
  exact this

/-- The disk's files under the changes of a crash. -/
def MidI (w : World) (O : Owner) (db mb n1 : Nat) (D : DS) (F : ByteArray → Option Nat) (picks : List Int) (k : Nat) (W : World) : Prop :=
  (∃ O', Mid w O (db + 1) n1 D.names F (crashTo picks D.chs D.safe k) D.names O' W) ∧ W.heap[db]? = w.heap[db]? ∧ W.heap[mb]? = w.heap[mb]?

theorem midI_own {w : World} {O : Owner} {db mb n1 B : Nat} {D : DS} {F : ByteArray → Option Nat} {picks : List Int} (hdb : db < w.heap.size) (hmb : mb < w.heap.size) (hB : w.heap.size ≤ B) : OwnFrom B (fun (pre : List (Nat × Chg)) W => MidI w O db mb n1 D F picks pre.length W) := by
  rintro s W W' row ⟨⟨O', h1⟩, h2, h3⟩ hg hr
  refine ⟨⟨O', h1.grown hg fun r e => ⟨Nat.le_trans hB (hr r e).1, (hr r e).2⟩⟩, (hg.block db (Nat.lt_of_lt_of_le hdb h1.size) fun e => ?_).trans h2, (hg.block mb (Nat.lt_of_lt_of_le hmb h1.size) fun e => ?_).trans h3⟩
  · have := (hr db e.symm).1; omega
  · have := (hr mb e.symm).1; omega

/-- A file that a change is about, in the middle. -/
theorem midI_file {w W : World} {O : Owner} {db mb n1 : Nat} {D : DS} {F : ByteArray → Option Nat} {picks : List Int} {k : Nat} (h : MidI w O db mb n1 D F picks k W) (hw : WF D) {y : ByteArray × Chg} (hy : D.chs[k]? = some y) :
    ∃ O' fb nt nv sh cv A c, F y.1 = some fb ∧ fb < w.heap.size ∧ Mid w O (db + 1) n1 D.names F (crashTo picks D.chs D.safe k) D.names O' W ∧
      FB W fb nt nv (crashTo picks D.chs D.safe k y.1).isSome (.slice A (szO (crashTo picks D.chs D.safe k y.1)) c) sh cv ∧ Buf W (db + 1) 5 (.slice A (szO (crashTo picks D.chs D.safe k y.1)) c) ((crashTo picks D.chs D.safe k y.1).getD []) ∧ O' fb = some (some y.1) ∧
      ∀ g, (Value.slice A (szO (crashTo picks D.chs D.safe k y.1)) c).ownBlock = some g → O' g = some (some y.1) := by
  obtain ⟨⟨O', hM⟩, _, _⟩ := h
  have hin : y.1 ∈ D.names := (hw.names y.1).2 (.inr (.inr ⟨y.2, List.mem_of_getElem? hy⟩))
  obtain ⟨fb, h1, h2, nt, nv, sh, cv, A, c, h3, h4, h5, h6, _⟩ := hM.files y.1 hin (.inl hin)
  exact ⟨O', fb, nt, nv, sh, cv, A, c, h1, h2, hM, h3, h4, h5, h6⟩

/-- One change has come. -/
theorem crash_turn {w W W0 W2 : World} {O O' : Owner} {db mb n1 fb : Nat} {D : DS} {F : ByteArray → Option Nat} {picks : List Int} {k : Nat} {y : ByteArray × Chg} {nt sh : Bool} {nv cv : Value} {A : Option Addr} {c : Nat} {e : Ending}
    (hc : Core w O db mb D F) (h : MidI w O db mb n1 D F picks k W) (hy : D.chs[k]? = some y) (hF : F y.1 = some fb) (hfb : fb < w.heap.size) (hM : Mid w O (db + 1) n1 D.names F (crashTo picks D.chs D.safe k) D.names O' W)
    (hfile : FB W fb nt nv (crashTo picks D.chs D.safe k y.1).isSome (.slice A (szO (crashTo picks D.chs D.safe k y.1)) c) sh cv) (hbuf : Buf W (db + 1) 5 (.slice A (szO (crashTo picks D.chs D.safe k y.1)) c) ((crashTo picks D.chs D.safe k y.1).getD []))
    (hO : O' fb = some (some y.1)) (hown : ∀ g, (Value.slice A (szO (crashTo picks D.chs D.safe k y.1)) c).ownBlock = some g → O' g = some (some y.1)) (hB : Below W.heap.size W W0)
    (hb : Behind W0 (db + 1) (.slice A (szO (crashTo picks D.chs D.safe k y.1)) c) (behindD y.2 (picks.getD k 0) (crashTo picks D.chs D.safe k y.1)) e W2) :
    ∃ t A' l' c', e = .returned (.agg #[.bool t, .slice A' l' c']) ∧ (W2.cell? ⟨fb, 2, none⟩ = some (.bool (crashTo picks D.chs D.safe k y.1).isSome) ∧ W2.cell? ⟨fb, 3, none⟩ = some (.slice A (szO (crashTo picks D.chs D.safe k y.1)) c) ∧ W2.frozen? ⟨fb, 2, none⟩ = false ∧ W2.frozen? ⟨fb, 3, none⟩ = false) ∧
      MidI w O db mb n1 D F picks (k + 1) ((W2.setCell ⟨fb, 2, none⟩ (.bool t)).setCell ⟨fb, 3, none⟩ (.slice A' l' c')) ∧ KeepsOthers W ((W2.setCell ⟨fb, 2, none⟩ (.bool t)).setCell ⟨fb, 3, none⟩ (.slice A' l' c')) ∧
      (∀ r, w.heap.size ≤ r → r < n1 → ((W2.setCell ⟨fb, 2, none⟩ (.bool t)).setCell ⟨fb, 3, none⟩ (.slice A' l' c')).heap[r]? = W.heap[r]?) ∧ W.heap.size ≤ ((W2.setCell ⟨fb, 2, none⟩ (.bool t)).setCell ⟨fb, 3, none⟩ (.slice A' l' c')).heap.size := by
  obtain ⟨⟨_, _⟩, hd, hmb⟩ := h
  obtain ⟨o, ho⟩ : ∃ o, crashTo picks D.chs D.safe k y.1 = o := ⟨_, rfl⟩
  rw [ho] at hfile hbuf hown hb ⊢
  obtain ⟨o', ho'⟩ : ∃ o', behindD y.2 (picks.getD k 0) o = o' := ⟨_, rfl⟩
  rw [ho'] at hb
  obtain ⟨v', rfl, hbuf2, hgr, hor⟩ := hb
  obtain ⟨A', c', rfl, _⟩ := hbuf2.form
  have hbl := hbuf.own
  have hfbW : fb < W.heap.size := Nat.lt_of_lt_of_le hfb hM.size
  have hnf : (Value.slice A (szO o) c).ownBlock ≠ some fb := buf_not_file hfile hbuf
  have hfile2 : FB W2 fb nt nv o.isSome (.slice A (szO o) c) sh cv := ((hgr.block fb (Nat.lt_of_lt_of_le hfbW hB.size) fun e => hnf e.symm).trans (hB.block fb hfbW)).trans hfile
  obtain ⟨⟨_, _, f2, f3, _, _⟩, fz⟩ := hfile2.cells
  have hset : ∀ j, j ≠ fb → ((W2.setCell ⟨fb, 2, none⟩ (.bool o'.isSome)).setCell ⟨fb, 3, none⟩ (.slice A' (o'.getD []).length c')).heap[j]? = W2.heap[j]? := fun j hj => by
    rw [Below.heap_setCell _ _ _ _ hj, Below.heap_setCell _ _ _ _ hj]
  have hold : ∀ j, j < W.heap.size → j ≠ fb → (Value.slice A (szO o) c).ownBlock ≠ some j → ((W2.setCell ⟨fb, 2, none⟩ (.bool o'.isSome)).setCell ⟨fb, 3, none⟩ (.slice A' (o'.getD []).length c')).heap[j]? = W.heap[j]? := fun j hj h1 h2 => by
    rw [hset j h1, hgr.block j (Nat.lt_of_lt_of_le hj hB.size) fun e => h2 e.symm, hB.block j hj]
  have hfile3 : FB ((W2.setCell ⟨fb, 2, none⟩ (.bool o'.isSome)).setCell ⟨fb, 3, none⟩ (.slice A' (o'.getD []).length c')) fb nt nv o'.isSome (.slice A' (o'.getD []).length c') sh cv := by
    have := block_set (block_set hfile2 2 (.bool o'.isSome)) 3 (.slice A' (o'.getD []).length c')
    exact this.trans (by simp)
  have hvne : ∀ g, (Value.slice A' (o'.getD []).length c').ownBlock = some g → g ≠ fb := fun g hg e => by
    rcases hor g hg with h1 | h1
    · exact hnf (e ▸ h1)
    · have := hB.size; omega
  have hbuf3 := hbuf2.keep (W' := (W2.setCell ⟨fb, 2, none⟩ (.bool o'.isSome)).setCell ⟨fb, 3, none⟩ (.slice A' (o'.getD []).length c')) fun g hg => hset g (hvne g hg)
  have hsz : W.heap.size ≤ ((W2.setCell ⟨fb, 2, none⟩ (.bool o'.isSome)).setCell ⟨fb, 3, none⟩ (.slice A' (o'.getD []).length c')).heap.size := by
    have := hB.size; have := hgr.size; simp only [World.setCell, Array.size_modify]; omega
  have hdb := hc.disk.lt
  have hmbl := hc.lt mb (by rw [hc.omb]; simp)
  have hne : ∀ j, j < w.heap.size → (O j = none ∨ O j = some none) → j ≠ fb ∧ (Value.slice A (szO o) c).ownBlock ≠ some j := fun j hj hoj => by
    have hO2 : O' j = O j := hM.old j hj
    constructor
    · rintro rfl
      rw [hO2] at hO
      rcases hoj with h | h <;> rw [h] at hO <;> cases hO
    · intro e
      have := hown j e
      rw [hO2] at this
      rcases hoj with h | h <;> rw [h] at this <;> cases this
  have hos : W2.os = W.os ∧ W2.tape = W.tape ∧ W2.output = W.output := ⟨hgr.os.trans hB.os, hgr.tape.trans hB.tape, hgr.output.trans hB.output⟩
  rw [szO_getD] at hset hold hfile3 hvne hbuf3 hsz ⊢
  refine ⟨_, _, _, _, rfl, ⟨f2, f3, fz 2, fz 3⟩, ⟨⟨own O' W.heap.size ((W2.setCell ⟨fb, 2, none⟩ (.bool o'.isSome)).setCell ⟨fb, 3, none⟩ (.slice A' (szO o') c')).heap.size y.1, ?_⟩, ?_, ?_⟩, ⟨hsz, fun j x hj hx => ?_⟩, fun r h1 h2 => ?_, hsz⟩
  · rw [crashTo_succ hy, ho, ho']
    refine hM.turn (sv := .slice A (szO o) c) hF hO hfile3 hbuf3 hown (fun g hg => ?_) hold hsz hos.1 hos.2.1 hos.2.2
    rcases hor g (by rw [szO_getD]; exact hg) with h1 | h1
    · exact .inl h1
    · exact .inr (Nat.le_trans hB.size h1)
  · obtain ⟨h1, h2⟩ := hne db hdb (.inr hc.odb)
    exact (hold db (Nat.lt_of_lt_of_le hdb hM.size) h1 h2).trans hd
  · obtain ⟨h1, h2⟩ := hne mb hmbl (.inr hc.omb)
    exact (hold mb (Nat.lt_of_lt_of_le hmbl hM.size) h1 h2).trans hmb
  · refine (hold j (Array.getElem?_eq_some_iff.1 hj).1 (fun e => ?_) (fun e => ?_)).trans hj
    · subst e
      unfold FB at hfile
      rw [hfile] at hj
      obtain rfl := (Option.some.inj hj).symm
      cases hx
    · rcases hbuf.2 with ⟨h6, _⟩ | ⟨g', cap, cur, h6, _, h7, _⟩
      · rw [h6] at e; cases e
      · have : g' = j := by rw [h6] at e; simpa [Value.ownBlock] using e
        subst this
        rw [h7] at hj
        obtain rfl := (Option.some.inj hj).symm
        cases hx
  · have hO2 : O' r = none := Classical.byContradiction fun e => by rcases hM.new r e with h | h <;> omega
    refine hold r (Nat.lt_of_lt_of_le h2 hM.n1) (fun e => ?_) (fun e => ?_)
    · rw [e, hO] at hO2; cases hO2
    · rw [hown r e] at hO2; cases hO2

/-- A box of the call's own is written. -/
theorem midI_box {w W : World} {O : Owner} {db mb n1 : Nat} {D : DS} {F : ByteArray → Option Nat} {picks : List Int} {k : Nat} (h : MidI w O db mb n1 D F picks k W) (hdb : db < w.heap.size) (hmb : mb < w.heap.size) {b : Nat} (h1 : w.heap.size ≤ b) (h2 : b < n1) (v : Value) :
    MidI w O db mb n1 D F picks k (W.setCell ⟨b, 0, none⟩ v) := by
  obtain ⟨⟨O', hM⟩, h3, h4⟩ := h
  have hs : W.heap.size ≤ (W.setCell ⟨b, 0, none⟩ v).heap.size := by simp [World.setCell]
  refine ⟨⟨O', hM.keep hs (fun k cur t z s _ ho => Below.heap_setCell _ _ _ _ fun e => ?_) (fun k hk _ => Below.heap_setCell _ _ _ _ fun e => ?_) rfl rfl rfl⟩, (Below.heap_setCell _ _ _ _ fun e => ?_).trans h3, (Below.heap_setCell _ _ _ _ fun e => ?_).trans h4⟩
  · have e' : k = b := e
    rw [e'] at ho
    rcases hM.new b (by rw [ho]; simp) with h | h <;> omega
  · have e' : k = b := e
    omega
  · have e' : db = b := e
    omega
  · have e' : mb = b := e
    omega

/-- Where the map leads while the names to come aren't settled yet: those that have gone lead nowhere. -/
def goneF (F : ByteArray → Option Nat) (st : ByteArray → Option (List Nat)) (names rest : List ByteArray) : ByteArray → Option Nat := fun x => if x ∈ names ∧ x ∉ rest ∧ st x = none then none else F x
theorem goneF_start (F : ByteArray → Option Nat) (st : ByteArray → Option (List Nat)) (names : List ByteArray) : goneF F st names names = F := by
  funext x
  unfold goneF
  rw [if_neg]
  rintro ⟨h1, h2, _⟩
  exact h2 h1
theorem goneF_in {F : ByteArray → Option Nat} {st : ByteArray → Option (List Nat)} {names rest : List ByteArray} {s : ByteArray} (h : s ∈ rest) : goneF F st names rest s = F s := by
  unfold goneF
  rw [if_neg]
  rintro ⟨_, h2, _⟩
  exact h2 h
theorem goneF_kept {F : ByteArray → Option Nat} {st : ByteArray → Option (List Nat)} {names rest : List ByteArray} {s : ByteArray} (hst : st s ≠ none) : goneF F st names (rest.erase s) = goneF F st names rest := by
  funext x
  unfold goneF
  by_cases hx : x = s
  · subst hx
    rw [if_neg (fun h => hst h.2.2), if_neg (fun h => hst h.2.2)]
  · have : x ∈ rest.erase s ↔ x ∈ rest := List.mem_erase_of_ne hx
    simp only [this]
theorem goneF_gone {F : ByteArray → Option Nat} {st : ByteArray → Option (List Nat)} {names rest : List ByteArray} {s : ByteArray} (hs : s ∈ names) (hn : rest.Nodup) (hst : st s = none) : (fun x => if x = s then none else goneF F st names rest x) = goneF F st names (rest.erase s) := by
  funext x
  by_cases hx : x = s
  · subst hx
    rw [if_pos rfl]
    unfold goneF
    rw [if_pos ⟨hs, fun e => by rw [hn.mem_erase_iff] at e; exact e.1 rfl, hst⟩]
  · rw [if_neg hx]
    unfold goneF
    have : x ∈ rest.erase s ↔ x ∈ rest := List.mem_erase_of_ne hx
    simp only [this]
theorem total_erase (f : ByteArray → Option (List Nat)) {rest : List ByteArray} {s : ByteArray} (hs : s ∈ rest) : total rest f = szO (f s) + total (rest.erase s) f := by
  rw [total_perm f (List.perm_cons_erase hs)]
  unfold total
  rw [List.map_cons, List.sum_cons]

section
variable {w W : World} {O O' : Owner} {base n1 : Nat} {names : List ByteArray} {F : ByteArray → Option Nat} {st : ByteArray → Option (List Nat)} {rest : List ByteArray}

/-- A block of the disk's own turned. -/
theorem Mid.core {W' : World} (h : Mid w O base n1 names F st rest O' W) {k0 : Nat} (hg : W.grownBy W' (some k0)) (hk0 : k0 < w.heap.size) (ho : O k0 = some none) : Mid w O base n1 names F st rest O' W' := by
  refine h.keep hg.size (fun k cur t z s hc hO => hg.block k (Array.getElem?_eq_some_iff.1 hc).1 fun e => ?_) (fun k hk hO => hg.block k (Nat.lt_of_lt_of_le hk h.size) fun e => ?_) hg.os hg.tape hg.output
  · have e' : k = k0 := by simpa using e
    rw [e', h.old k0 hk0, ho] at hO
    cases hO
  · have e' : k = k0 := by simpa using e
    rw [e', ho] at hO
    cases hO
theorem grown_setCell (W : World) (k i : Nat) (v : Value) : W.grownBy (W.setCell ⟨k, i, none⟩ v) (some k) :=
  ⟨rfl, rfl, rfl, by simp [World.setCell], fun j _ hj => Below.heap_setCell _ _ _ j (fun e => hj (by rw [e]))⟩

theorem FileMid.mono {s : ByteArray} {fb : Nat} {o : Option (List Nat)} {d d' : Prop} (h : FileMid W O' base s fb o d) (hd : d' → d) : FileMid W O' base s fb o d' := by
  obtain ⟨nt, nv, sh, cv, A, c, h1, h2, h3, h4, h5⟩ := h
  exact ⟨nt, nv, sh, cv, A, c, h1, h2, h3, h4, fun h => h5 (hd h)⟩

/-- A name that has gone. -/
theorem Mid.gone (h : Mid w O base n1 names F st rest O' W) {s : ByteArray} (hn : rest.Nodup) (hst : st s = none) : Mid w O base n1 names F st (rest.erase s) O' W := by
  refine ⟨h.old, h.new, h.lt, fun x hx hr => ?_, h.same, h.os, h.tape, h.output, h.size, h.n1⟩
  by_cases hxs : x = s
  · subst hxs
    rcases hr with hr | hr
    · rw [hn.mem_erase_iff] at hr; exact absurd rfl hr.1
    · exact absurd hst hr
  · have e : x ∈ rest.erase s ↔ x ∈ rest := List.mem_erase_of_ne hxs
    obtain ⟨fb, h1, h2, h3⟩ := h.files x hx (hr.imp_left e.1)
    exact ⟨fb, h1, h2, h3.mono fun hd h4 => hd (e.2 h4)⟩

/-- A name that stays is settled. -/
theorem Mid.settle (h : Mid w O base n1 names F st rest O' W) {W0 : World} (hB : Below W.heap.size W W0) {s : ByteArray} {fb : Nat} (hs : s ∈ rest) (hF : F s = some fb) {nt sh : Bool} {nv cv : Value} {A : Option Addr} {c : Nat} (hst : (st s).isSome = true)
    (hfile : FB W fb nt nv (st s).isSome (.slice A (szO (st s)) c) sh cv) (hbuf : Buf W base 5 (.slice A (szO (st s)) c) ((st s).getD [])) (hO : O' fb = some (some s)) (hown : ∀ g, (Value.slice A (szO (st s)) c).ownBlock = some g → O' g = some (some s)) (hfb : fb < w.heap.size) :
    Mid w O base n1 names F st (rest.erase s) O' (setFile W0 fb true (.slice A (szO (st s)) c)) := by
  have hfbW : fb < W.heap.size := Nat.lt_of_lt_of_le hfb h.size
  have hnf : (Value.slice A (szO (st s)) c).ownBlock ≠ some fb := buf_not_file hfile hbuf
  have hoth : ∀ k, k < W.heap.size → k ≠ fb → (setFile W0 fb true (.slice A (szO (st s)) c)).heap[k]? = W.heap[k]? := fun k hk hne => by rw [setFile_other hne, hB.block k hk]
  have hsz : W.heap.size ≤ (setFile W0 fb true (.slice A (szO (st s)) c)).heap.size := by rw [setFile_size]; exact hB.size
  have hos : (setFile W0 fb true (.slice A (szO (st s)) c)).os = W0.os ∧ (setFile W0 fb true (.slice A (szO (st s)) c)).tape = W0.tape ∧ (setFile W0 fb true (.slice A (szO (st s)) c)).output = W0.output := by simp [setFile, World.setCell]
  have hf2 := setFile_file (there := true) (v := .slice A (szO (st s)) c) (hfile.below hB)
  generalize setFile W0 fb true (.slice A (szO (st s)) c) = W2 at hoth hsz hos hf2 ⊢
  refine ⟨h.old, h.new, fun k hk => Nat.lt_of_lt_of_le (h.lt k hk) hsz, fun x hx hr => ?_, fun k hk ho => ?_, (hos.1.trans hB.os).trans h.os, (hos.2.1.trans hB.tape).trans h.tape, (hos.2.2.trans hB.output).trans h.output, Nat.le_trans h.size hsz, Nat.le_trans h.n1 hsz⟩
  · by_cases hxs : x = s
    · subst hxs
      refine ⟨fb, hF, hfb, true, _, true, .slice none 0 0, A, c, ?_, hbuf.keep fun g hg => hoth g (hbuf.own g hg).2 (fun e => hnf (e ▸ hg)), hO, hown, fun _ => ⟨hst.symm, rfl, rfl, rfl⟩⟩
      rw [hst]; exact hf2
    · have e : x ∈ rest.erase s ↔ x ∈ rest := List.mem_erase_of_ne hxs
      obtain ⟨fx, h1, h2, h3⟩ := h.files x hx (hr.imp_left e.1)
      refine ⟨fx, h1, h2, (h3.mono fun hd h4 => hd (e.2 h4)).keep fun k cur t z hc ho => hoth k (Array.getElem?_eq_some_iff.1 hc).1 fun e2 => ?_⟩
      rw [e2, hO] at ho
      simp only [Option.some.injEq] at ho
      exact hxs ho.symm
  · refine (hoth k (Nat.lt_of_lt_of_le hk h.size) fun e => ?_).trans (h.same k hk ho)
    have := h.old k hk
    rw [e, hO, ← e, ho] at this
    cases this
end

/-- The disk behind a crash, all files settled. -/
theorem crashed_done {w W : World} {O O' : Owner} {db mb n1 n : Nat} {D : DS} {F : ByteArray → Option Nat} {picks : List Int} (hc : Core w O db mb D F) (h : Mid w O (db + 1) n1 D.names F (D.crashSafe picks) [] O' W)
    (hd : DB W db mb (D.room : Int) (total D.names (D.crashSafe picks) : Nat) (D.made : Int) false) (hn : n ≤ D.made) (hm : MapP Tryz.prog 9 W mb n (goneF F (D.crashSafe picks) D.names [])) :
    DiskAt W O' db (D.crash picks) ∧ Past w O W O' := by
  have hdb := hc.disk.lt
  have hmb : mb < w.heap.size := hc.lt mb (by rw [hc.omb]; simp)
  have hmem : ∀ s, s ∈ (D.crash picks).names ↔ s ∈ D.names ∧ (D.crashSafe picks s).isSome = true := fun s => List.mem_filter
  refine ⟨⟨mb, goneF F (D.crashSafe picks) D.names [], ⟨hd, ⟨n, hn, hm⟩, (h.old db hdb).trans hc.odb, (h.old mb hmb).trans hc.omb, fun s hs => ?_, h.lt⟩, fun s hs => ?_⟩, ⟨h.os, h.tape, h.output, h.size, h.same, fun k hk ho => (h.old k hk).trans ho⟩⟩
  · rw [hmem]
    unfold goneF
    by_cases h1 : s ∈ D.names
    · cases h2 : D.crashSafe picks s with
      | none => rw [if_pos ⟨h1, by simp, rfl⟩]; simp
      | some b =>
        rw [if_neg (fun h => by cases h.2.2)]
        simp [h1, (hc.dom s hs).2 h1]
    · rw [if_neg (fun h => h1 h.1)]
      simp [h1, mt (hc.dom s hs).1 h1]
  · obtain ⟨h1, h2⟩ := (hmem s).1 hs
    have hne : D.crashSafe picks s ≠ none := fun e => by rw [e] at h2; cases h2
    obtain ⟨fb, h3, h4, nt, nv, sh, cv, A, c, h5, h6, h7, h8, h9⟩ := h.files s h1 (.inr hne)
    obtain ⟨rfl, rfl, rfl, rfl⟩ := h9 (by simp)
    refine ⟨fb, ?_, true, _, _, _, h5, h6, h6, fun g _ _ => ⟨rfl, .inl (Nat.le_refl _)⟩, OwnC.nil _ _, h7, ?_⟩
    · unfold goneF
      rw [if_neg (fun h => hne h.2.2)]
      exact h3
    · rintro g (hg | hg | hg)
      · exact h8 g hg
      · exact h8 g hg
      · cases hg

end Go.Proofs.YtnhkpemajknfnaaGreatDoor.Disk
