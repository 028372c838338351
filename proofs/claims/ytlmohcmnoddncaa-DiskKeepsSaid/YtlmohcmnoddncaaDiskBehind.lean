/-
  Contract of disk's behindCrash: a durable file behind the crash that came upon a change.
-/
import Derived.Test.YtlmohcmnoddncaaDiskChanges
namespace Go.Proofs.Ytlmohcmnoddncaa.Disk
open Go Go.RowKit Go.Lib Go.Proofs.Ytlmohcmnoddncaa.Law

/-- A durable file behind the crash that came upon a change. -/
def behindD (c : Chg) (p : Int) (o : Option (List Nat)) : Option (List Nat) :=
  if c.kind = 0 then (if 0 < min p (c.s.size : Int) ∧ c.pos ≤ szO o then some (overL (o.getD []) c.pos ((bytesS c.s).take (min p (c.s.size : Int)).toNat)) else o)
  else if c.kind = 1 then (if 0 < p ∧ c.pos < szO o then some ((o.getD []).take c.pos) else o)
  else if 0 < p then none else o

/-- What behindCrash leaves. -/
def Behind (w : World) (base : Nat) (v : Value) (o : Option (List Nat)) (e : Ending) (W : World) : Prop :=
  ∃ v', e = .returned (.agg #[.bool o.isSome, v']) ∧ Buf W base 5 v' (o.getD []) ∧ w.grownBy W v.ownBlock ∧ ∀ g, v'.ownBlock = some g → v.ownBlock = some g ∨ w.heap.size ≤ g

theorem behind_same {w W : World} {base : Nat} {v : Value} {o : Option (List Nat)} (h : Buf w base 5 v (o.getD [])) (hB : Below w.heap.size w W) : Behind w base v o (.returned (.agg #[.bool o.isSome, v])) W :=
  ⟨v, rfl, h.below hB, ⟨hB.os, hB.tape, hB.output, hB.size, fun k hk _ => hB.block k hk⟩, fun _ hg => .inl hg⟩

theorem extract_take (s : ByteArray) (n : Nat) : bytesS (s.extract 0 n) = (bytesS s).take n := by
  unfold bytesS
  rw [ByteArray.data_extract, Array.toList_extract, List.map_take]
  congr 1

theorem own_any (A : Option Addr) (n c n' c' : Nat) : (Value.slice A n c).ownBlock = (Value.slice A n' c').ownBlock := by
  cases A with
  | none => rfl
  | some a => rfl
theorem three_new (w : World) (a b : Obj) (x y : Value) (t : TypeId) : (((w.alloc a).alloc b).alloc (.cells #[x, y] t)).heap[w.heap.size + 1 + 1]? = some (.cells #[x, y] t (0, 0)) := by
  have := heap_alloc_new ((w.alloc a).alloc b) (.cells #[x, y] t)
  rwa [World.size_alloc, World.size_alloc] at this

set_option maxRecDepth 100000 in
set_option maxHeartbeats 4000000 in
theorem behind_calls (w : World) (base : Nat) (A : Option Addr) (cap : Nat) (o : Option (List Nat)) (h : Buf w base 5 (.slice A (szO o) cap) (o.getD [])) (hbase : base ≤ w.heap.size) (ho : szO o ≤ 1073741824) (c : Chg) (hc : c.pos + c.s.size ≤ 1073741824) (hk : c.kind ≤ 2) (p : Int) :
    Calls Try.prog 43 #[.agg #[.bool o.isSome, .slice A (szO o) cap], .agg #[.int .i64 (c.n : Nat), .int .i64 (c.kind : Nat), .int .i64 (c.pos : Nat), .string c.s], .int .i64 p] w (Behind w base (.slice A (szO o) cap) (behindD c p o)) := by
  obtain ⟨cn, ck, cp, cs⟩ := c
  simp only at hc hk ⊢
  have HS : Hid (∀ W, Below w.heap.size w W → Behind w base (.slice A (szO o) cap) o (.returned (.agg #[.bool o.isSome, .slice A (szO o) cap])) W) := Lib.hid fun W hB => behind_same h hB
  have HB3 : Hid (∀ a b c, Below w.heap.size w (((w.alloc a).alloc b).alloc c)) := Lib.hid fun a b c => (((Below.refl w.heap.size w).alloc (Nat.le_refl _) a).alloc (by simp) b).alloc (by simp; omega) c
  obtain ⟨nt, hnt⟩ : ∃ nt, o.isSome = nt := ⟨_, rfl⟩
  obtain ⟨sz, hsz⟩ : ∃ sz, szO o = sz := ⟨_, rfl⟩
  rcases (show ck = 0 ∨ ck = 1 ∨ ck = 2 by omega) with rfl | rfl | rfl
  · by_cases hn : 0 < min p (cs.size : Int) ∧ cp ≤ szO o
    · obtain ⟨m, hm⟩ : ∃ m : Nat, min p (cs.size : Int) = (m : Nat) := ⟨(min p (cs.size : Int)).toNat, by omega⟩
      have hD : behindD ⟨cn, 0, cp, cs⟩ p o = some (overL (o.getD []) cp (bytesS (cs.extract 0 m))) := by
        unfold behindD; rw [if_pos rfl, if_pos hn]
        simp only [hm, Int.toNat_natCast, extract_take]
      rw [hD]
      have hm1 : 0 < m := by omega
      have hm2 : m ≤ cs.size := by omega
      have hcp : cp ≤ szO o := hn.2
      have CW : Hid (∀ W0, Below w.heap.size w W0 → w.heap.size + 3 ≤ W0.heap.size → Calls Try.prog 62 #[.agg #[.bool nt, .slice A sz cap], .int .i64 (cp : Nat), .string (cs.extract 0 m)] W0 fun e W2 => ∃ A' l' k', e = .returned (.agg #[.bool true, .slice A' l' k']) ∧
          (∀ j, w.heap.size ≤ j → j < W0.heap.size → W2.heap[j]? = W0.heap[j]?) ∧
          Hid (Behind w base (.slice A sz cap) (some (overL (o.getD []) cp (bytesS (cs.extract 0 m)))) (.returned (.agg #[.bool true, .slice A' l' k'])) ((W2.setCell ⟨w.heap.size + 1 + 1, 0, none⟩ (.bool true)).setCell ⟨w.heap.size + 1 + 1, 1, none⟩ (.slice A' l' k')))) := Lib.hid fun W0 hB hW0 => by
        rw [← hsz]
        have hown := h.own
        refine (written_calls nt (.slice A (szO o) cap) (o.getD []) cp (by rw [szO_getD]; exact hcp) (cs.extract 0 m) (by rw [szO_getD]; simp; omega) base W0 (h.below hB) (by have := hB.size; omega)).mono ?_
        rintro e W2 ⟨v', rfl, hbuf, hgr, hor, _, _⟩
        obtain ⟨A', k', rfl, _⟩ := hbuf.form
        have hvne : ∀ g, (Value.slice A' (overL (o.getD []) cp (bytesS (cs.extract 0 m))).length k').ownBlock = some g → (Value.slice A (szO o) cap).ownBlock = some g ∨ W0.heap.size ≤ g := fun g hg => by
          rcases hor with h1 | ⟨g2, h1, h2⟩
          · exact .inl (h1.symm.trans hg)
          · rw [hg] at h1
            have : g = g2 := by simpa using h1
            exact .inr (by omega)
        have hset : ∀ j, j ≠ w.heap.size + 1 + 1 → ((W2.setCell ⟨w.heap.size + 1 + 1, 0, none⟩ (.bool true)).setCell ⟨w.heap.size + 1 + 1, 1, none⟩ (.slice A' (overL (o.getD []) cp (bytesS (cs.extract 0 m))).length k')).heap[j]? = W2.heap[j]? := fun j hj => by
          rw [Below.heap_setCell _ _ _ _ hj, Below.heap_setCell _ _ _ _ hj]
        refine ⟨A', _, k', rfl, fun j h1 h2 => hgr.block j h2 (fun e => by have := (hown j e.symm).2; omega), Lib.hid ⟨_, rfl, ?_, ⟨?_, ?_, ?_, ?_, fun k hk hne => ?_⟩, fun g hg => ?_⟩⟩
        · refine hbuf.keep fun g hg => hset g ?_
          rcases hvne g hg with h1 | h1
          · have := (hown g h1).2; omega
          · omega
        · exact hgr.os.trans hB.os
        · exact hgr.tape.trans hB.tape
        · exact hgr.output.trans hB.output
        · have := hgr.size; have := hB.size; simp only [World.setCell, Array.size_modify]; omega
        · rw [hset k (by omega), hgr.block k (by omega) hne, hB.block k hk]
        · rcases hvne g hg with h1 | h1
          · exact .inl h1
          · exact .inr (by have := hB.size; omega)
      rw [hsz] at ho hcp ⊢
      rw [hnt]
      have g0 : decide (0 < m) = true := by simp; omega
      have g1 : decide (cp ≤ sz) = true := by simp; omega
      have hmI : (m : Int) ≤ (cs.size : Int) := by omega
      have HB3D : Hid (∀ a b c, Below w.heap.size w (((w.alloc a).alloc b).alloc c).drew ∧ w.heap.size + 3 ≤ (((w.alloc a).alloc b).alloc c).drew.heap.size) := Lib.hid fun a b c => ⟨(HB3.out a b c).drew, by simp⟩
      have hcpI : (cp : Int) ≤ (sz : Int) := by omega
      have hmp : (0 : Int) < (m : Int) := by omega
      clear h hD hnt hsz hn HS hcp
      go_enter Try.func43, Try.ntmps43
      go_wp2_with fail
      go_region_with (go_at_call 62; ((with_reducible refine (CW.out _ (HB3D.out _ _ _).1 (HB3D.out _ _ _).2).mono ?_); rintro e W2 ⟨A', l', k', rfl, hkeep, HF⟩; obtain ⟨q0, q1, q2, q3⟩ := two2 ((hkeep (w.heap.size + 1 + 1) (by omega) (by simp)).trans (three_new w _ _ _ _ _)); clear hkeep))
      all_goals
        go_wp2_with fail
        refine bodyPost_ret (v := .agg #[.bool true, .slice A' l' k']) (by simp [results, Try.results43, go_sem, q0, q1]) rfl HF.out
    · have hD : behindD ⟨cn, 0, cp, cs⟩ p o = o := by unfold behindD; rw [if_pos rfl, if_neg hn]
      rw [hD]
      rw [hnt, hsz] at HS ⊢
      rw [hsz] at hn ho
      clear h hD hnt hsz
      by_cases h1 : 0 < min p (cs.size : Int)
      · have h2 : ¬ cp ≤ sz := fun e => hn ⟨h1, e⟩
        obtain ⟨m, hm⟩ : ∃ m, min p (cs.size : Int) = m := ⟨_, rfl⟩
        have g2 : decide (cp ≤ sz) = false := by simp; omega
        have g0 : decide (0 < m) = true := by simp; omega
        clear hn
        go_enter Try.func43, Try.ntmps43
        go_wp2_with fail
        refine bodyPost_ret (v := .agg #[.bool nt, .slice A sz cap]) (by simp [results, Try.results43, go_sem]) rfl (HS.out _ (HB3.out _ _ _))
      · obtain ⟨m, hm⟩ : ∃ m, min p (cs.size : Int) = m := ⟨_, rfl⟩
        have g0 : decide (0 < m) = false := by simp; omega
        clear hn
        go_enter Try.func43, Try.ntmps43
        go_wp2_with fail
        refine bodyPost_ret (v := .agg #[.bool nt, .slice A sz cap]) (by simp [results, Try.results43, go_sem]) rfl (HS.out _ (HB3.out _ _ _))
  · by_cases hn : 0 < p ∧ cp < szO o
    · have hD : behindD ⟨cn, 1, cp, cs⟩ p o = some ((o.getD []).take cp) := by
        unfold behindD; rw [if_neg (by simp), if_pos rfl, if_pos hn]
      rw [hD]
      have hcp : cp ≤ szO o := Nat.le_of_lt hn.2
      have hA : A = none → cap = 0 := fun e => by
        rcases h.2 with ⟨h1, _⟩ | ⟨g, cap', cur, h1, _⟩
        · simp only [Value.slice.injEq] at h1; omega
        · simp only [Value.slice.injEq] at h1; rw [e] at h1; cases h1.1
      have hsp : ∀ a, A = some a → a.spot = none := fun a e => by
        rcases h.2 with ⟨h1, _⟩ | ⟨g, cap', cur, h1, _⟩
        · simp only [Value.slice.injEq] at h1; rw [e] at h1; cases h1.1
        · simp only [Value.slice.injEq] at h1; rw [e] at h1
          obtain rfl := Option.some.inj h1.1
          rfl
      have hcapl : szO o ≤ cap ∧ cap ≤ 9223372036854775807 := by
        rcases h.2 with ⟨h1, h2⟩ | ⟨g, cap', cur, h1, _, _, h2, _, h3, _⟩
        · simp only [Value.slice.injEq] at h1; omega
        · simp only [Value.slice.injEq] at h1
          rw [szO_getD] at h2
          simp only [maxLen] at h3
          omega
      have CW : Hid (∀ W0, Below w.heap.size w W0 → w.heap.size + 3 ≤ W0.heap.size → Calls Try.prog 49 #[.agg #[.bool nt, .slice A sz cap], .int .i64 (cp : Nat)] W0 fun e W2 => e = .returned (.agg #[.bool true, .slice A cp cp]) ∧
          (∀ j, w.heap.size ≤ j → j < W0.heap.size → W2.heap[j]? = W0.heap[j]?) ∧
          Hid (Behind w base (.slice A sz cap) (some ((o.getD []).take cp)) (.returned (.agg #[.bool true, .slice A cp cp])) ((W2.setCell ⟨w.heap.size + 1 + 1, 0, none⟩ (.bool true)).setCell ⟨w.heap.size + 1 + 1, 1, none⟩ (.slice A cp cp)))) := Lib.hid fun W0 hB hW0 => by
        rw [← hsz]
        have hown := h.own
        refine (cut_calls nt A (szO o) cap cp hA hsp (by omega) hcapl.2 W0).mono ?_
        rintro e W2 ⟨rfl, hB2⟩
        have hBW := hB.trans (hB2.mono hB.size)
        have hcut := h.cut cp (by rw [szO_getD]; exact hcp) (fun e => by have := hA e; omega)
        have hset : ∀ j, j ≠ w.heap.size + 1 + 1 → ((W2.setCell ⟨w.heap.size + 1 + 1, 0, none⟩ (.bool true)).setCell ⟨w.heap.size + 1 + 1, 1, none⟩ (.slice A cp cp)).heap[j]? = W2.heap[j]? := fun j hj => by
          rw [Below.heap_setCell _ _ _ _ hj, Below.heap_setCell _ _ _ _ hj]
        refine ⟨rfl, fun j _ h2 => hB2.block j h2, Lib.hid ⟨_, rfl, ?_, ⟨hBW.os, hBW.tape, hBW.output, ?_, fun k hk _ => ?_⟩, fun g hg => .inl ((own_any A _ _ _ _).trans hg)⟩⟩
        · exact (hcut.below hBW).keep fun g hg => hset g (by have := (hcut.own g hg).2; omega)
        · have := hBW.size; simp only [World.setCell, Array.size_modify]; omega
        · rw [hset k (by omega), hBW.block k hk]
      have h2 : cp < szO o := hn.2
      have h1 : 0 < p := hn.1
      rw [hsz] at ho h2 ⊢
      rw [hnt]
      have g1 : decide (cp < sz) = true := by simp; omega
      have h2I : (cp : Int) < (sz : Int) := by omega
      clear h hD hnt hsz hn HS hcp hA hsp hcapl
      go_enter Try.func43, Try.ntmps43
      go_wp2_with fail
      refine (CW.out _ (HB3.out _ _ _) (by simp)).mono ?_
      rintro e W2 ⟨rfl, hkeep, HF⟩
      obtain ⟨q0, q1, q2, q3⟩ := two2 ((hkeep (w.heap.size + 1 + 1) (by omega) (by simp)).trans (three_new w _ _ _ _ _))
      clear hkeep CW
      go_wp2_with fail
      refine bodyPost_ret (v := .agg #[.bool true, .slice A cp cp]) (by simp [results, Try.results43, go_sem, q0, q1]) rfl HF.out
    · have hD : behindD ⟨cn, 1, cp, cs⟩ p o = o := by unfold behindD; rw [if_neg (by simp), if_pos rfl, if_neg hn]
      rw [hD]
      rw [hnt, hsz] at HS ⊢
      rw [hsz] at hn ho
      clear h hD hnt hsz
      by_cases h1 : 0 < p
      · have h2 : ¬ cp < sz := fun e => hn ⟨h1, e⟩
        have g2 : decide (cp < sz) = false := by simp; omega
        clear hn
        go_enter Try.func43, Try.ntmps43
        go_wp2_with fail
        refine bodyPost_ret (v := .agg #[.bool nt, .slice A sz cap]) (by simp [results, Try.results43, go_sem]) rfl (HS.out _ (HB3.out _ _ _))
      · clear hn
        go_enter Try.func43, Try.ntmps43
        go_wp2_with fail
        refine bodyPost_ret (v := .agg #[.bool nt, .slice A sz cap]) (by simp [results, Try.results43, go_sem]) rfl (HS.out _ (HB3.out _ _ _))
  · by_cases hn : 0 < p
    · have hD : behindD ⟨cn, 2, cp, cs⟩ p o = none := by
        unfold behindD; rw [if_neg (by simp), if_neg (by simp), if_pos hn]
      rw [hD]
      have HN : Hid (∀ W0, Below w.heap.size w W0 → Behind w base (.slice A sz cap) none (.returned (.agg #[.bool false, .slice none 0 0])) W0) := Lib.hid fun W0 hB => ⟨_, rfl, Buf.nil _ _ _, ⟨hB.os, hB.tape, hB.output, hB.size, fun k hk _ => hB.block k hk⟩, fun g hg => by cases hg⟩
      rw [hsz] at ho ⊢
      rw [hnt]
      clear h hD hnt hsz HS
      go_enter Try.func43, Try.ntmps43
      go_wp2_with fail
      refine bodyPost_ret (v := .agg #[.bool false, .slice none 0 0]) (by simp [results, Try.results43, go_sem]) rfl (HN.out _ (HB3.out _ _ _))
    · have hD : behindD ⟨cn, 2, cp, cs⟩ p o = o := by unfold behindD; rw [if_neg (by simp), if_neg (by simp), if_neg hn]
      rw [hD]
      rw [hnt, hsz] at HS ⊢
      rw [hsz] at ho
      clear h hD hnt hsz
      go_enter Try.func43, Try.ntmps43
      go_wp2_with fail
      refine bodyPost_ret (v := .agg #[.bool nt, .slice A sz cap]) (by simp [results, Try.results43, go_sem]) rfl (HS.out _ (HB3.out _ _ _))

end Go.Proofs.Ytlmohcmnoddncaa.Disk
