/-
  Contracts of graph's rightInputs and what it calls: slices.ContainsFunc at a function that has a number.
-/
import Derived.Test.YtmfndimejnbgkaaGraphLeaf
namespace Go.Proofs.Ytmfndimejnbgkaa.Graph
open Go Go.RowKit Go.Proofs.Ytmfndimejnbgkaa.Law

theorem notAhead_calls (y k : Int) (B : Nat) (g : Bool) (hg : g = true ↔ ¬ (0 ≤ y ∧ y < k)) (w : World) (hc : w.cell? ⟨B, 0, none⟩ = some (.int .i64 k)) :
    Calls Try.prog 103 #[.int .i64 y, .pointer (some ⟨B, 0, none⟩)] w (RetBo g w) := by
  obtain ⟨g1, hg1⟩ := exB (0 ≤ y ∧ y < k)
  have hgg : g = !g1 := by
    refine g_same hg ?_
    rw [Bool.not_eq_true', ← hg1]
    cases g1 <;> simp
  subst hgg
  have C1 := Lib.hid (isNumber_calls y k g1 hg1)
  clear hg hg1
  go_enter Try.func103, Try.ntmps103
  go_wp2_with fail
  refine (C1.out _).mono ?_
  rintro e w' ⟨rfl, rfl⟩
  go_wp2_with fail
  go_ret
  exact ⟨rfl, rfl⟩

/-- One of them is no number ahead. -/
def badIn (l : List Int) (k : Int) : Prop := ∃ y ∈ l, ¬ (0 ≤ y ∧ y < k)
/-- A number, at least 0 just if P; nothing turns. -/
def RetIx (w : World) (P : Prop) (e : Ending) (W : World) : Prop := ∃ i : Int, e = .returned (.int .i64 i) ∧ (0 ≤ i ↔ P) ∧ w = W

set_option maxRecDepth 100000 in
set_option maxHeartbeats 2000000 in
theorem indexInt_calls (l : List Int) (hl : l.length * 8 ≤ 140737488351232) (v : Value) (k : Int) (B : Nat) (w : World) (h : IntsAt (fun _ => True) w v l) (hc : w.cell? ⟨B, 0, none⟩ = some (.int .i64 k)) :
    Calls Try.prog 134 #[v, .func (.func 103) #[] #[.pointer (some ⟨B, 0, none⟩)]] w (RetIx w (badIn l k)) := by
  obtain ⟨A, cap, rfl, hcap⟩ := h.form
  obtain ⟨len, hlen⟩ : ∃ len, l.length = len := ⟨_, rfl⟩
  rw [hlen] at h hcap hl ⊢
  have HL := Lib.hid hlen
  have HI := Lib.hid h
  have HC := Lib.hid hc
  clear h hlen hc
  go_enter Try.func134, Try.ntmps134
  go_wp2_with fail
  go_loop [8] (fun i => ∃ k' : Nat, i = .int .i64 k' ∧ k' ≤ len ∧ (∀ j x, l[j]? = some x → j < k' → 0 ≤ x ∧ x < k)) (fun i => len - (intOf i).toNat)
  case atStart => exact ⟨0, rfl, Nat.zero_le _, fun _ _ _ h => absurd h (Nat.not_lt_zero _)⟩
  case round =>
    obtain ⟨k', rfl, hk, hno⟩ := hrel
    have HNO := Lib.hid hno
    clear hno
    by_cases hlt : k' < len
    · obtain ⟨x, hx⟩ : ∃ x, l[k']? = some x := ⟨_, List.getElem?_eq_getElem (by rw [HL.out]; exact hlt)⟩
      obtain ⟨b, off, rfl, -, hcells⟩ := HI.out.at (by omega)
      have c0 := hcells k' x hx
      have HX := Lib.hid hx
      by_cases hm : 0 ≤ x ∧ x < k
      · have CT := Lib.hid (notAhead_calls x k B false (by simp [hm]) w HC.out)
        have HM := Lib.hid hm
        clear hcells hx hm
        go_wp2_with fail
        refine CT.out.mono ?_
        rintro e w2 ⟨rfl, rfl⟩
        go_wp2_with fail
        go_round
        case rel =>
          refine ⟨k' + 1, by go_num, by omega, fun j y hy hj => ?_⟩
          by_cases hjk : j = k'
          · subst hjk
            obtain rfl := Option.some.inj (hy.symm.trans HX.out)
            exact HM.out
          · exact HNO.out j y hy (by omega)
        case measure => simp [intOf]; omega
      · have CT := Lib.hid (notAhead_calls x k B true (by simp [hm]) w HC.out)
        have HP : Hid (badIn l k) := Lib.hid ⟨x, List.mem_of_getElem? hx, hm⟩
        clear hcells hx hm
        go_wp2_with fail
        refine CT.out.mono ?_
        rintro e w2 ⟨rfl, rfl⟩
        go_wp2_with fail
        go_ret
        exact ⟨_, rfl, ⟨fun _ => HP.out, fun _ => by omega⟩, rfl⟩
    · obtain rfl : k' = len := by omega
      go_wp2_with fail
      go_ret
      refine ⟨_, rfl, ⟨fun h => absurd h (by decide), fun ⟨x, hx, hx2⟩ => ?_⟩, rfl⟩
      obtain ⟨j, hj⟩ := List.getElem?_of_mem hx
      have hjl : j < l.length := (List.getElem?_eq_some_iff.1 hj).1
      rw [HL.out] at hjl
      exact absurd (HNO.out j x hj hjl) hx2

set_option maxRecDepth 100000 in
theorem containsInt_calls (l : List Int) (hl : l.length * 8 ≤ 140737488351232) (v : Value) (k : Int) (B : Nat) (g : Bool) (hg : g = true ↔ badIn l k) (w : World) (h : IntsAt (fun _ => True) w v l) (hc : w.cell? ⟨B, 0, none⟩ = some (.int .i64 k)) :
    Calls Try.prog 106 #[v, .func (.func 103) #[] #[.pointer (some ⟨B, 0, none⟩)]] w (RetBo g w) := by
  have CI := Lib.hid (indexInt_calls l hl v k B w h hc)
  have HG := Lib.hid hg
  clear h hg hc
  go_enter Try.func106, Try.ntmps106
  go_wp2_with fail
  refine CI.out.mono ?_
  rintro e W ⟨i, rfl, hi, rfl⟩
  have HI := Lib.hid hi
  clear hi CI
  by_cases h0 : 0 ≤ i
  · obtain rfl : g = true := HG.out.2 (HI.out.1 h0)
    go_wp2_with fail
    go_ret
    exact ⟨rfl, rfl⟩
  · obtain rfl : g = false := b_false HG.out fun h => h0 (HI.out.2 h)
    have hdI : decide (0 ≤ i) = false := decide_eq_false h0
    go_wp2_with fail
    go_ret
    exact ⟨rfl, rfl⟩

theorem two_low (w : World) (o p : Obj) : Below w.heap.size w ((w.alloc o).alloc p) := ((Below.refl _ _).alloc (Nat.le_refl _) o).alloc (by simp) p
theorem lowD {B : Nat} {a w : World} (h : Below B a w) (n : Nat) : Below B a (w.drewN n) := ⟨h.os, h.tape, h.output, h.size, h.block⟩

set_option maxRecDepth 100000 in
set_option maxHeartbeats 4000000 in
theorem rightInputs_calls (x : Opr) (hx : x.ins.length * 8 ≤ 140737488351232) (v : Value) (k : Int) (g : Bool) (hg : g = true ↔ insP x k) (w : World) (hI : OldI w.heap.size w v x.ins) :
    Calls Try.prog 60 #[opV x v, .int .i64 k] w (RetT g w) := by
  obtain ⟨A, c, rfl, _⟩ := hI.form
  obtain ⟨n, hn⟩ : ∃ n, x.ins.length = n := ⟨_, rfl⟩
  obtain ⟨g1, hg1⟩ := exB (badIn x.ins k)
  obtain ⟨m, hm⟩ : ∃ m, wantN x.kind = m := ⟨_, rfl⟩
  obtain ⟨W, hW⟩ : ∃ W, (w.alloc (.cells #[.int .i64 x.kind, .slice A n c, .int .i64 x.arg, .int .u32 (x.num : Nat), .int .i64 x.rounds, .int .i64 x.test, .int .u32 (x.lim : Nat)] 27)).alloc (.cells #[.int .i64 k] 3) = W := ⟨_, rfl⟩
  have hB : Below w.heap.size w W := by rw [← hW]; exact two_low _ _ _
  have hb0 : W.heap[w.heap.size]? = some (.cells #[.int .i64 x.kind, .slice A n c, .int .i64 x.arg, .int .u32 (x.num : Nat), .int .i64 x.rounds, .int .i64 x.test, .int .u32 (x.lim : Nat)] 27) := by
    rw [← hW]; exact (Below.heap_alloc _ _ _ (by simp)).trans (heap_alloc_new w _)
  have hb1 : W.heap[w.heap.size + 1]? = some (.cells #[.int .i64 k] 3) := by
    rw [← hW]; have := heap_alloc_new (w.alloc (.cells #[.int .i64 x.kind, .slice A n c, .int .i64 x.arg, .int .u32 (x.num : Nat), .int .i64 x.rounds, .int .i64 x.test, .int .u32 (x.lim : Nat)] 27)) (.cells #[.int .i64 k] 3)
    rwa [World.size_alloc] at this
  have hci := (box1 hb1).1
  obtain ⟨⟨c0, c1, c2, c3, c4, c5, c6⟩, -⟩ := box7 hb0
  have C1 := Lib.hid fun d => containsInt_calls x.ins hx _ k (w.heap.size + 1) g1 hg1 (W.drewN d) ((hI.keep (T := fun _ => True) (fun b hb => hB.block b hb) (fun _ _ => trivial))) hci
  have C2 := Lib.hid fun w => inputs_calls x.kind w
  rw [hn] at C1 hx ⊢
  rw [hm] at C2
  have HG : Hid (g = true ↔ ((n : Int) = m ∧ ∀ y ∈ x.ins, 0 ≤ y ∧ y < k)) := Lib.hid (by rw [hg, insP, hn, hm])
  have HG1 := Lib.hid hg1
  have HW := Lib.hid hW
  have HB := Lib.hid hB
  obtain ⟨kind, ins, arg, num, rounds, test, lim⟩ := x
  simp only at HW c0 c1 c2 c3 c4 c5 c6 C2 C1 HG HG1
  clear hg hg1 hW hB hI hb0 hb1 hn hm
  by_cases hnm : (n : Int) = m
  · have hgg : g = !g1 := by
      refine g_same HG.out ?_
      rw [Bool.not_eq_true']
      constructor
      · intro h
        refine ⟨hnm, fun y hy => Classical.byContradiction fun hc => ?_⟩
        have := HG1.out.2 ⟨y, hy, hc⟩
        rw [h] at this; cases this
      · intro h
        exact b_false HG1.out fun ⟨y, hy, hc⟩ => hc (h.2 y hy)
    subst hgg
    subst hnm
    clear HG HG1
    go_enter Try.func60, Try.ntmps60
    go_wp2_with fail
    rw [HW.out]
    go_quiet ((first | (go_at_call 105; exact Calls.quiet_of_same ((C2.out _).mono fun _ _ ⟨he, hw⟩ => ⟨he, hw.symm⟩)) | (go_at_call 106; exact Calls.quiet_of_same ((C1.out _).mono fun _ _ ⟨he, hw⟩ => ⟨he, hw.symm⟩))))
    go_wp2_with fail
    go_ret
    exact ⟨rfl, lowD HB.out _⟩
  · obtain rfl := b_false HG.out fun h => hnm h.1
    have hd : ((n : Int) == m) = false := beq_eq_false_iff_ne.2 hnm
    clear HG HG1 hnm
    go_enter Try.func60, Try.ntmps60
    go_wp2_with fail
    rw [HW.out]
    go_quiet ((first | (go_at_call 105; exact Calls.quiet_of_same ((C2.out _).mono fun _ _ ⟨he, hw⟩ => ⟨he, hw.symm⟩)) | (go_at_call 106; exact Calls.quiet_of_same ((C1.out _).mono fun _ _ ⟨he, hw⟩ => ⟨he, hw.symm⟩))))
    go_wp2_with fail
    go_ret
    exact ⟨rfl, lowD HB.out _⟩

end Go.Proofs.Ytmfndimejnbgkaa.Graph
