/-
  Put together out of texts of one chain: what they hold stands ahead of each.
-/
import Derived.Test.YtnjjjalenhbicaaGDiskStands16
import Derived.OwnWalkIn
import Derived.TacticsInMore
import Derived.LoopNIn
import Derived.LoopIn
import Derived.Shelf.Abstract
import Derived.Shelf.RegionOpen
import Derived.Test.YtnjjjalenhbicaaGDiskStands03
/-
  Contract of disk's behindCrash: a durable file behind the crash that came upon a change.
-/
namespace Go.Proofs.Ytnjjjalenhbicaa.Disk
open Go Go.RowKit Go.Lib Go.Proofs.Ytnjjjalenhbicaa.Law

/-- A durable file behind the crash that came upon a change. -/
def behindD (c : Chg) (p : Int) (o : Option (List Nat)) : Option (List Nat) :=
  if c.kind = 0 then (if 0 < min p (c.s.size : Int) ∧ c.pos ≤ szO o then some (overL (o.getD []) c.pos ((bytesS c.s).take (min p (c.s.size : Int)).toNat)) else o)
  else if c.kind = 1 then (if 0 < p ∧ c.pos < szO o then some ((o.getD []).take c.pos) else o)
  else if 0 < p then none else o

/-- What behindCrash leaves. -/
def Behind (w : World) (base : Nat) (v : Value) (o : Option (List Nat)) (e : Ending) (W : World) : Prop :=
  ∃ v', e = .returned (.agg #[.bool o.isSome, v']) ∧ Buf W base 5 v' (o.getD []) ∧ w.grownBy W v.ownBlock ∧ ∀ g, v'.ownBlock = some g → v.ownBlock = some g ∨ w.heap.size ≤ g

theorem behind_same {w W : World} {base : Nat} {v : Value} {o : Option (List Nat)} (h : Buf w base 5 v (o.getD [])) (hB : Below w.heap.size w W) : Behind w base v o (.returned (.agg #[.bool o.isSome, v])) W :=
  ⟨v, rfl, h.below hB, ⟨hB.os, hB.tape, hB.output, hB.size, fun k hk _ => hB.block k hk⟩, fun _ hg => .inl hg⟩

theorem extract_take (s : ByteArray) (n : Nat) : bytesS (s.extract 0 n) = (bytesS s).take n := by
  unfold bytesS
  rw [ByteArray.data_extract, Array.toList_extract, List.map_take]
  congr 1

theorem own_any (A : Option Addr) (n c n' c' : Nat) : (Value.slice A n c).ownBlock = (Value.slice A n' c').ownBlock := by
  cases A with
  | none => rfl
  | some a => rfl
theorem three_new (w : World) (a b : Obj) (x y : Value) (t : TypeId) : (((w.alloc a).alloc b).alloc (.cells #[x, y] t)).heap[w.heap.size + 1 + 1]? = some (.cells #[x, y] t (0, 0)) := by
  have := heap_alloc_new ((w.alloc a).alloc b) (.cells #[x, y] t)
  rwa [World.size_alloc, World.size_alloc] at this

set_option maxRecDepth 100000 in
set_option maxHeartbeats 4000000 in
theorem behind_calls (w : World) (base : Nat) (A : Option Addr) (cap : Nat) (o : Option (List Nat)) (h : Buf w base 5 (.slice A (szO o) cap) (o.getD [])) (hbase : base ≤ w.heap.size) (ho : szO o ≤ 1073741824) (c : Chg) (hc : c.pos + c.s.size ≤ 1073741824) (hk : c.kind ≤ 2) (p : Int) :
    Calls Try.prog 43 #[.agg #[.bool o.isSome, .slice A (szO o) cap], .agg #[.int .i64 (c.n : Nat), .int .i64 (c.kind : Nat), .int .i64 (c.pos : Nat), .string c.s], .int .i64 p] w (Behind w base (.slice A (szO o) cap) (behindD c p o)) := by
  obtain ⟨cn, ck, cp, cs⟩ := c
  simp only at hc hk ⊢
  have HS : Hid (∀ W, Below w.heap.size w W → Behind w base (.slice A (szO o) cap) o (.returned (.agg #[.bool o.isSome, .slice A (szO o) cap])) W) := Lib.hid fun W hB => behind_same h hB
  have HB3 : Hid (∀ a b c, Below w.heap.size w (((w.alloc a).alloc b).alloc c)) := Lib.hid fun a b c => (((Below.refl w.heap.size w).alloc (Nat.le_refl _) a).alloc (by simp) b).alloc (by simp; omega) c
  obtain ⟨nt, hnt⟩ : ∃ nt, o.isSome = nt := ⟨_, rfl⟩
  obtain ⟨sz, hsz⟩ : ∃ sz, szO o = sz := ⟨_, rfl⟩
  rcases (show ck = 0 ∨ ck = 1 ∨ ck = 2 by omega) with rfl | rfl | rfl
  · by_cases hn : 0 < min p (cs.size : Int) ∧ cp ≤ szO o
    · obtain ⟨m, hm⟩ : ∃ m : Nat, min p (cs.size : Int) = (m : Nat) := ⟨(min p (cs.size : Int)).toNat, by omega⟩
      have hD : behindD ⟨cn, 0, cp, cs⟩ p o = some (overL (o.getD []) cp (bytesS (cs.extract 0 m))) := by
        unfold behindD; rw [if_pos rfl, if_pos hn]
        simp only [hm, Int.toNat_natCast, extract_take]
      rw [hD]
      have hm1 : 0 < m := by omega
      have hm2 : m ≤ cs.size := by omega
      have hcp : cp ≤ szO o := hn.2
      have CW : Hid (∀ W0, Below w.heap.size w W0 → w.heap.size + 3 ≤ W0.heap.size → Calls Try.prog 62 #[.agg #[.bool nt, .slice A sz cap], .int .i64 (cp : Nat), .string (cs.extract 0 m)] W0 fun e W2 => ∃ A' l' k', e = .returned (.agg #[.bool true, .slice A' l' k']) ∧
          (∀ j, w.heap.size ≤ j → j < W0.heap.size → W2.heap[j]? = W0.heap[j]?) ∧
          Hid (Behind w base (.slice A sz cap) (some (overL (o.getD []) cp (bytesS (cs.extract 0 m)))) (.returned (.agg #[.bool true, .slice A' l' k'])) ((W2.setCell ⟨w.heap.size + 1 + 1, 0, none⟩ (.bool true)).setCell ⟨w.heap.size + 1 + 1, 1, none⟩ (.slice A' l' k')))) := Lib.hid fun W0 hB hW0 => by
        rw [← hsz]
        have hown := h.own
        refine (written_calls nt (.slice A (szO o) cap) (o.getD []) cp (by rw [szO_getD]; exact hcp) (cs.extract 0 m) (by rw [szO_getD]; simp; omega) base W0 (h.below hB) (by have := hB.size; omega)).mono ?_
        rintro e W2 ⟨v', rfl, hbuf, hgr, hor, _, _⟩
        obtain ⟨A', k', rfl, _⟩ := hbuf.form
        have hvne : ∀ g, (Value.slice A' (overL (o.getD []) cp (bytesS (cs.extract 0 m))).length k').ownBlock = some g → (Value.slice A (szO o) cap).ownBlock = some g ∨ W0.heap.size ≤ g := fun g hg => by
          rcases hor with h1 | ⟨g2, h1, h2⟩
          · exact .inl (h1.symm.trans hg)
          · rw [hg] at h1
            have : g = g2 := by simpa using h1
            exact .inr (by omega)
        have hset : ∀ j, j ≠ w.heap.size + 1 + 1 → ((W2.setCell ⟨w.heap.size + 1 + 1, 0, none⟩ (.bool true)).setCell ⟨w.heap.size + 1 + 1, 1, none⟩ (.slice A' (overL (o.getD []) cp (bytesS (cs.extract 0 m))).length k')).heap[j]? = W2.heap[j]? := fun j hj => by
          rw [Below.heap_setCell _ _ _ _ hj, Below.heap_setCell _ _ _ _ hj]
        refine ⟨A', _, k', rfl, fun j h1 h2 => hgr.block j h2 (fun e => by have := (hown j e.symm).2; omega), Lib.hid ⟨_, rfl, ?_, ⟨?_, ?_, ?_, ?_, fun k hk hne => ?_⟩, fun g hg => ?_⟩⟩
        · refine hbuf.keep fun g hg => hset g ?_
          rcases hvne g hg with h1 | h1
          · have := (hown g h1).2; omega
          · omega
        · exact hgr.os.trans hB.os
        · exact hgr.tape.trans hB.tape
        · exact hgr.output.trans hB.output
        · have := hgr.size; have := hB.size; simp only [World.setCell, Array.size_modify]; omega
        · rw [hset k (by omega), hgr.block k (by omega) hne, hB.block k hk]
        · rcases hvne g hg with h1 | h1
          · exact .inl h1
          · exact .inr (by have := hB.size; omega)
      rw [hsz] at ho hcp ⊢
      rw [hnt]
      have g0 : decide (0 < m) = true := by simp; omega
      have g1 : decide (cp ≤ sz) = true := by simp; omega
      have hmI : (m : Int) ≤ (cs.size : Int) := by omega
      have HB3D : Hid (∀ a b c, Below w.heap.size w (((w.alloc a).alloc b).alloc c).drew ∧ w.heap.size + 3 ≤ (((w.alloc a).alloc b).alloc c).drew.heap.size) := Lib.hid fun a b c => ⟨(HB3.out a b c).drew, by simp⟩
      have hcpI : (cp : Int) ≤ (sz : Int) := by omega
      have hmp : (0 : Int) < (m : Int) := by omega
      clear h hD hnt hsz hn HS hcp
      go_enter Try.func43, Try.ntmps43
      go_wp2_with fail
      go_region_with (go_at_call 62; ((with_reducible refine (CW.out _ (HB3D.out _ _ _).1 (HB3D.out _ _ _).2).mono ?_); rintro e W2 ⟨A', l', k', rfl, hkeep, HF⟩; obtain ⟨q0, q1, q2, q3⟩ := two2 ((hkeep (w.heap.size + 1 + 1) (by omega) (by simp)).trans (three_new w _ _ _ _ _)); clear hkeep))
      all_goals
        go_wp2_with fail
        refine bodyPost_ret (v := .agg #[.bool true, .slice A' l' k']) (by simp [results, Try.results43, go_sem, q0, q1]) rfl HF.out
    · have hD : behindD ⟨cn, 0, cp, cs⟩ p o = o := by unfold behindD; rw [if_pos rfl, if_neg hn]
      rw [hD]
      rw [hnt, hsz] at HS ⊢
      rw [hsz] at hn ho
      clear h hD hnt hsz
      by_cases h1 : 0 < min p (cs.size : Int)
      · have h2 : ¬ cp ≤ sz := fun e => hn ⟨h1, e⟩
        obtain ⟨m, hm⟩ : ∃ m, min p (cs.size : Int) = m := ⟨_, rfl⟩
        have g2 : decide (cp ≤ sz) = false := by simp; omega
        have g0 : decide (0 < m) = true := by simp; omega
        clear hn
        go_enter Try.func43, Try.ntmps43
        go_wp2_with fail
        refine bodyPost_ret (v := .agg #[.bool nt, .slice A sz cap]) (by simp [results, Try.results43, go_sem]) rfl (HS.out _ (HB3.out _ _ _))
      · obtain ⟨m, hm⟩ : ∃ m, min p (cs.size : Int) = m := ⟨_, rfl⟩
        have g0 : decide (0 < m) = false := by simp; omega
        clear hn
        go_enter Try.func43, Try.ntmps43
        go_wp2_with fail
        refine bodyPost_ret (v := .agg #[.bool nt, .slice A sz cap]) (by simp [results, Try.results43, go_sem]) rfl (HS.out _ (HB3.out _ _ _))
  · by_cases hn : 0 < p ∧ cp < szO o
    · have hD : behindD ⟨cn, 1, cp, cs⟩ p o = some ((o.getD []).take cp) := by
        unfold behindD; rw [if_neg (by simp), if_pos rfl, if_pos hn]
      rw [hD]
      have hcp : cp ≤ szO o := Nat.le_of_lt hn.2
      have hA : A = none → cap = 0 := fun e => by
        rcases h.2 with ⟨h1, _⟩ | ⟨g, cap', cur, h1, _⟩
        · simp only [Value.slice.injEq] at h1; omega
        · simp only [Value.slice.injEq] at h1; rw [e] at h1; cases h1.1
      have hsp : ∀ a, A = some a → a.spot = none := fun a e => by
        rcases h.2 with ⟨h1, _⟩ | ⟨g, cap', cur, h1, _⟩
        · simp only [Value.slice.injEq] at h1; rw [e] at h1; cases h1.1
        · simp only [Value.slice.injEq] at h1; rw [e] at h1
          obtain rfl := Option.some.inj h1.1
          rfl
      have hcapl : szO o ≤ cap ∧ cap ≤ 9223372036854775807 := by
        rcases h.2 with ⟨h1, h2⟩ | ⟨g, cap', cur, h1, _, _, h2, _, h3, _⟩
        · simp only [Value.slice.injEq] at h1; omega
        · simp only [Value.slice.injEq] at h1
          rw [szO_getD] at h2
          simp only [maxLen] at h3
          omega
      have CW : Hid (∀ W0, Below w.heap.size w W0 → w.heap.size + 3 ≤ W0.heap.size → Calls Try.prog 49 #[.agg #[.bool nt, .slice A sz cap], .int .i64 (cp : Nat)] W0 fun e W2 => e = .returned (.agg #[.bool true, .slice A cp cp]) ∧
          (∀ j, w.heap.size ≤ j → j < W0.heap.size → W2.heap[j]? = W0.heap[j]?) ∧
          Hid (Behind w base (.slice A sz cap) (some ((o.getD []).take cp)) (.returned (.agg #[.bool true, .slice A cp cp])) ((W2.setCell ⟨w.heap.size + 1 + 1, 0, none⟩ (.bool true)).setCell ⟨w.heap.size + 1 + 1, 1, none⟩ (.slice A cp cp)))) := Lib.hid fun W0 hB hW0 => by
        rw [← hsz]
        have hown := h.own
        refine (cut_calls nt A (szO o) cap cp hA hsp (by omega) hcapl.2 W0).mono ?_
        rintro e W2 ⟨rfl, hB2⟩
        have hBW := hB.trans (hB2.mono hB.size)
        have hcut := h.cut cp (by rw [szO_getD]; exact hcp) (fun e => by have := hA e; omega)
        have hset : ∀ j, j ≠ w.heap.size + 1 + 1 → ((W2.setCell ⟨w.heap.size + 1 + 1, 0, none⟩ (.bool true)).setCell ⟨w.heap.size + 1 + 1, 1, none⟩ (.slice A cp cp)).heap[j]? = W2.heap[j]? := fun j hj => by
          rw [Below.heap_setCell _ _ _ _ hj, Below.heap_setCell _ _ _ _ hj]
        refine ⟨rfl, fun j _ h2 => hB2.block j h2, Lib.hid ⟨_, rfl, ?_, ⟨hBW.os, hBW.tape, hBW.output, ?_, fun k hk _ => ?_⟩, fun g hg => .inl ((own_any A _ _ _ _).trans hg)⟩⟩
        · exact (hcut.below hBW).keep fun g hg => hset g (by have := (hcut.own g hg).2; omega)
        · have := hBW.size; simp only [World.setCell, Array.size_modify]; omega
        · rw [hset k (by omega), hBW.block k hk]
      have h2 : cp < szO o := hn.2
      have h1 : 0 < p := hn.1
      rw [hsz] at ho h2 ⊢
      rw [hnt]
      have g1 : decide (cp < sz) = true := by simp; omega
      have h2I : (cp : Int) < (sz : Int) := by omega
      clear h hD hnt hsz hn HS hcp hA hsp hcapl
      go_enter Try.func43, Try.ntmps43
      go_wp2_with fail
      refine (CW.out _ (HB3.out _ _ _) (by simp)).mono ?_
      rintro e W2 ⟨rfl, hkeep, HF⟩
      obtain ⟨q0, q1, q2, q3⟩ := two2 ((hkeep (w.heap.size + 1 + 1) (by omega) (by simp)).trans (three_new w _ _ _ _ _))
      clear hkeep CW
      go_wp2_with fail
      refine bodyPost_ret (v := .agg #[.bool true, .slice A cp cp]) (by simp [results, Try.results43, go_sem, q0, q1]) rfl HF.out
    · have hD : behindD ⟨cn, 1, cp, cs⟩ p o = o := by unfold behindD; rw [if_neg (by simp), if_pos rfl, if_neg hn]
      rw [hD]
      rw [hnt, hsz] at HS ⊢
      rw [hsz] at hn ho
      clear h hD hnt hsz
      by_cases h1 : 0 < p
      · have h2 : ¬ cp < sz := fun e => hn ⟨h1, e⟩
        have g2 : decide (cp < sz) = false := by simp; omega
        clear hn
        go_enter Try.func43, Try.ntmps43
        go_wp2_with fail
        refine bodyPost_ret (v := .agg #[.bool nt, .slice A sz cap]) (by simp [results, Try.results43, go_sem]) rfl (HS.out _ (HB3.out _ _ _))
      · clear hn
        go_enter Try.func43, Try.ntmps43
        go_wp2_with fail
        refine bodyPost_ret (v := .agg #[.bool nt, .slice A sz cap]) (by simp [results, Try.results43, go_sem]) rfl (HS.out _ (HB3.out _ _ _))
  · by_cases hn : 0 < p
    · have hD : behindD ⟨cn, 2, cp, cs⟩ p o = none := by
        unfold behindD; rw [if_neg (by simp), if_neg (by simp), if_pos hn]
      rw [hD]
      have HN : Hid (∀ W0, Below w.heap.size w W0 → Behind w base (.slice A sz cap) none (.returned (.agg #[.bool false, .slice none 0 0])) W0) := Lib.hid fun W0 hB => ⟨_, rfl, Buf.nil _ _ _, ⟨hB.os, hB.tape, hB.output, hB.size, fun k hk _ => hB.block k hk⟩, fun g hg => by cases hg⟩
      rw [hsz] at ho ⊢
      rw [hnt]
      clear h hD hnt hsz HS
      go_enter Try.func43, Try.ntmps43
      go_wp2_with fail
      refine bodyPost_ret (v := .agg #[.bool false, .slice none 0 0]) (by simp [results, Try.results43, go_sem]) rfl (HN.out _ (HB3.out _ _ _))
    · have hD : behindD ⟨cn, 2, cp, cs⟩ p o = o := by unfold behindD; rw [if_neg (by simp), if_neg (by simp), if_neg hn]
      rw [hD]
      rw [hnt, hsz] at HS ⊢
      rw [hsz] at ho
      clear h hD hnt hsz
      go_enter Try.func43, Try.ntmps43
      go_wp2_with fail
      refine bodyPost_ret (v := .agg #[.bool nt, .slice A sz cap]) (by simp [results, Try.results43, go_sem]) rfl (HS.out _ (HB3.out _ _ _))

end Go.Proofs.Ytnjjjalenhbicaa.Disk

/-
  Contract of the iterator that disk's changes hands back: it tells the files and changes of its row.
-/
namespace Go.Proofs.Ytnjjjalenhbicaa.Disk
open Go Go.RowKit Go.Shelf Go.Lib Go.Proofs.Ytnjjjalenhbicaa.Law

attribute [local go_sem] Oper.semAt_some

abbrev encsX (x : Nat × Chg) : Array Value := #[.pointer (some ⟨x.1, 0, none⟩), .agg #[.int .i64 (x.2.n : Nat), .int .i64 (x.2.kind : Nat), .int .i64 (x.2.pos : Nat), .string x.2.s]]

/-- What a round keeps: one block. -/
def KeepB (r : Option Nat) (A B : World) : Prop := A.heap.size ≤ B.heap.size ∧ ∀ k, r = some k → k < A.heap.size → B.heap[k]? = A.heap[k]?
theorem KeepB.trans {r : Option Nat} {A B C : World} (h : KeepB r A B) (k : KeepB r B C) : KeepB r A C := ⟨Nat.le_trans h.1 k.1, fun j hj hl => (k.2 j hj (Nat.lt_of_lt_of_le hl h.1)).trans (h.2 j hj hl)⟩

theorem flatX_at : ∀ (l : List (Nat × Chg)) (i : Nat) (h : i < l.length), (flatX l)[i * 5]? = some (.pointer (some ⟨l[i].1, 0, none⟩)) ∧ (flatX l)[i * 5 + 1]? = some (.int .i64 (l[i].2.n : Nat)) ∧ (flatX l)[i * 5 + 2]? = some (.int .i64 (l[i].2.kind : Nat)) ∧ (flatX l)[i * 5 + 3]? = some (.int .i64 (l[i].2.pos : Nat)) ∧ (flatX l)[i * 5 + 4]? = some (.string l[i].2.s)
  | [], i, h => by simp at h
  | x :: r, 0, _ => ⟨rfl, rfl, rfl, rfl, rfl⟩
  | x :: r, i + 1, h => by
    have := flatX_at r i (by simpa using h)
    have e : (i + 1) * 5 = i * 5 + 5 := by omega
    rw [e]
    exact this
theorem OwnX.cells {W : World} {base : Nat} {A : Option Addr} {n cap : Nat} {l : List (Nat × Chg)} (h : OwnX W base (.slice A n cap) l) (i : Nat) (hi : i < l.length) : n ≤ cap ∧ ∃ g, A = some ⟨g, 0, none⟩ ∧ g < W.heap.size ∧
    W.cell? ⟨g, i * 5, none⟩ = some (.pointer (some ⟨l[i].1, 0, none⟩)) ∧ W.cell? ⟨g, i * 5 + 1, none⟩ = some (.int .i64 (l[i].2.n : Nat)) ∧ W.cell? ⟨g, i * 5 + 2, none⟩ = some (.int .i64 (l[i].2.kind : Nat)) ∧ W.cell? ⟨g, i * 5 + 3, none⟩ = some (.int .i64 (l[i].2.pos : Nat)) ∧ W.cell? ⟨g, i * 5 + 4, none⟩ = some (.string l[i].2.s) := by
  rcases h.2 with ⟨_, h0⟩ | ⟨g, cap', cur, hv, _, hg, hn, hm, hs, ht⟩
  · omega
  · simp only [Value.slice.injEq] at hv
    obtain ⟨rfl, rfl, rfl⟩ := hv
    have hcell : ∀ j u, (flatX l)[j]? = some u → W.cell? ⟨g, j, none⟩ = some u := fun j u hu => by
      have hj : j < l.length * 5 := by have := (List.getElem?_eq_some_iff.1 hu).1; rwa [flatX_length] at this
      simp only [World.cell?, hg, Option.isSome_none, Bool.false_eq_true, if_false]
      rw [← Array.getElem?_toList, ← List.getElem?_take_of_lt hj, ht]
      exact hu
    obtain ⟨f0, f1, f2, f3, f4⟩ := flatX_at l i hi
    exact ⟨hn, g, rfl, (Array.getElem?_eq_some_iff.1 hg).1, hcell _ _ f0, hcell _ _ f1, hcell _ _ f2, hcell _ _ f3, hcell _ _ f4⟩

set_option maxRecDepth 100000 in
set_option maxHeartbeats 4000000 in
theorem iter_in (n : Nat) (hn : 2 ≤ n) (l Bx base B0 : Nat) (v : Value) (L : List (Nat × Chg)) (hlen : L.length ≤ 4294967296) (J Jx : List (Nat × Chg) → World → Prop) (hJ : AbidesFrom B0 J)
    (hY : ∀ pre x W1, J pre W1 → True → (∃ k, pre ++ [x] = L.take k) → pre.length < L.length → YieldAt Fence.wide (n - 1) Try.prog l (encsX x) W1 fun e W' =>
      (e = .returned (.bool true) ∧ J (pre ++ [x]) W' ∧ KeepB v.ownBlock W1 W') ∨ (e = .returned (.bool false) ∧ Jx (pre ++ [x]) W'))
    (W : World) (hbx : BoxX W Bx v) (hO : OwnX W base v L) (h0 : J [] W) :
    CallsIn Fence.wide n Try.prog 61 #[.func (.yield l) #[] #[], .pointer (some ⟨Bx, 0, none⟩)] W fun e W' => (∃ v, e = .returned v) ∧
      ((∃ ys, ys = L ∧ J ys W') ∨ (∃ pre, (∃ k, pre = L.take k) ∧ Jx pre W')) := by
  have hn1 : 1 ≤ n := by omega
  obtain ⟨b0, b1⟩ := hbx.cell
  obtain ⟨A, cap, rfl⟩ := hO.form
  refine callsIn_of_wp Try.func61 rfl trivial ?_ rfl
  simp only [Try.ntmps61, List.size_toArray, List.length_cons, List.length_nil, Nat.reduceAdd, Nat.reduceSub, Array.replicate_succ, Array.replicate_zero, List.push_toArray, List.append_toArray, List.nil_append, List.cons_append]
  have HJ0 := Lib.hid h0
  have HY := Lib.hid hY
  have HO := Lib.hid hO
  obtain ⟨N, hN⟩ : ∃ N, L.length = N := ⟨_, rfl⟩
  have HN := Lib.hid hN
  rw [hN] at b0 hlen HO HY
  clear h0 hY hO hbx hN
  gi_wp2_with fail
  gi_loopw [7] (fun i wr => ∃ k : Nat, i = .int .i64 k ∧ k ≤ N ∧ Hid (J (L.take k) wr) ∧ Hid (OwnX wr base (.slice A N cap) L)) (fun i _ => N - (intOf i).toNat)
  case atStart => exact ⟨0, rfl, Nat.zero_le _, Lib.hid (by rw [List.take_zero]; exact HJ0.out), HO⟩
  case round =>
    obtain ⟨k, rfl, hk, HJk, HOk⟩ := hrel
    by_cases hlt : k < N
    · obtain ⟨x, hx⟩ : ∃ x, L[k]'(by rw [HN.out]; exact hlt) = x := ⟨_, rfl⟩
      obtain ⟨hnc, g, rfl, hg, c0, c1, c2, c3, c4⟩ := HOk.out.cells k (by rw [HN.out]; exact hlt)
      rw [hx] at c0 c1 c2 c3 c4
      obtain ⟨fx, cn, ck, cp, cs⟩ := x
      simp only at c0 c1 c2 c3 c4
      have htk : L.take k ++ [(fx, ⟨cn, ck, cp, cs⟩)] = L.take (k + 1) := by
        rw [List.take_succ_eq_append_getElem (by rw [HN.out]; exact hlt), hx]
      have hlk : (L.take k).length = k := by rw [List.length_take, HN.out]; omega
      have hB0 := (Below.refl wr.heap.size wr).alloc (Nat.le_refl _) (.cells #[.pointer (some ⟨fx, 0, none⟩), .int .i64 (cn : Nat), .int .i64 (ck : Nat), .int .i64 (cp : Nat), .string cs] 104)
      have hJm := hJ _ wr _ none HJk.out (grown_of_below hB0) (fun r e => by cases e)
      obtain ⟨fn, tmps, assign, body, hy, hRd⟩ := HY.out (L.take k) (fx, ⟨cn, ck, cp, cs⟩) _ hJm trivial ⟨_, htk⟩ (by rw [hlk]; exact hlt)
      have HOm := Lib.hid (HOk.out.keep (W' := wr.alloc (.cells #[.pointer (some ⟨fx, 0, none⟩), .int .i64 (cn : Nat), .int .i64 (ck : Nat), .int .i64 (cp : Nat), .string cs] 104)) fun j hj => Below.heap_alloc _ _ _ (HOk.out.own j hj).2)
      have HTK := Lib.hid htk
      have hltI : (k : Int) < (N : Int) := by omega
      have hncI : (N : Int) ≤ (cap : Int) := by omega
      clear hx htk hlk hB0 hJm HJk HOk
      gi_wp2
      refine hRd.mono ?_
      rintro e W3 (⟨rfl, hJ3, hk3⟩ | ⟨rfl, hJx3⟩)
      · have HJ3 := Lib.hid hJ3
        have HO3 := Lib.hid (HOm.out.keep fun j hj => hk3.2 j (by rw [← hj]) (HOm.out.own j hj).2)
        clear hy hRd hk3 hJ3
        gi_wp2
        go_roundw
        case rel => exact ⟨k + 1, by go_num, by omega, Lib.hid (by rw [← HTK.out]; exact HJ3.out), HO3⟩
        case measure => simp [intOf]; omega
      · clear hy hRd
        gi_wp2
        refine bodyPost_ret (results_none rfl _ _ _) rfl ?_
        exact ⟨⟨_, rfl⟩, .inr ⟨_, ⟨_, HTK.out⟩, hJx3⟩⟩
    · obtain rfl : k = N := by omega
      have hall : J L wr := by
        have := HJk.out
        rwa [← HN.out, List.take_length] at this
      have HALL := Lib.hid hall
      have hltI : ¬ (k : Int) < (k : Int) := by omega
      clear hall
      gi_wp2
      go_end0
      exact ⟨⟨_, rfl⟩, .inl HALL.out⟩

theorem iter_stops (n : Nat) (hn : 2 ≤ n) (Bx base : Nat) (v : Value) (L : List (Nat × Chg)) (hlen : L.length ≤ 4294967296) (w : World) (hbx : BoxX w Bx v) (hO : OwnX w base v L) :
    SeqTold Fence.wide n Try.prog 61 #[.pointer (some ⟨Bx, 0, none⟩)] encsX (fun _ _ => True) (KeepB v.ownBlock) (fun ys => ys = L) (fun pre => ∃ k, pre = L.take k) L.length w := by
  intro l J Jx W hW hJ _ hY h0
  exact iter_in n hn l Bx base W.heap.size v L hlen J Jx hJ (fun pre x W1 h1 h2 h3 h4 => hY pre x W1 h1 h2 h3 h4) W ((hW.block Bx (Array.getElem?_eq_some_iff.1 (show w.heap[Bx]? = _ from hbx)).1).trans hbx) (hO.keep fun g hg => hW.block g (hO.own g hg).2) h0

end Go.Proofs.Ytnjjjalenhbicaa.Disk
