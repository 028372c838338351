/-
  Contract of millraceref05's Lose.
-/
import Derived.Test.YtjcgkjjomiapoaaMailRefTake
namespace Go.Proofs.Ytjcgkjjomiapoaa.Mail
open Go Go.RowKit Go.Proofs.Ytjcgkjjomiapoaa.Law

def keeps3 (node : Int) (m : Mail3) : Bool := keeps node m.msg
def RefLost (w : World) (base q : Nat) (nodes node : Int) (l : List Mail3) (e : Ending) (W : World) : Prop :=
  e = .returned (.int .i64 ((l.length : Int) - ((l.filter (keeps3 node)).length : Int))) ∧ RefPost W base q nodes (l.filter (keeps3 node)) ∧ Frm isRefP base w W

theorem filter_step {α : Type} (f : α → Bool) {l : List α} {k : Nat} {x : α} (hk : l[k]? = some x) : (l.take (k + 1)).filter f = if f x then (l.take k).filter f ++ [x] else (l.take k).filter f := by
  obtain ⟨hl, hx⟩ := List.getElem?_eq_some_iff.1 hk
  rw [List.take_succ_eq_append_getElem hl, hx, List.filter_append]
  by_cases h : f x <;> simp [h]

set_option maxRecDepth 100000 in
set_option maxHeartbeats 8000000 in
theorem refLose_calls (base q : Nat) (nodes : Int) (l : List Mail3) (w : World) (h : RefPost w base q nodes l) (hbase : base ≤ w.heap.size) (node : Int) (hroom : l.length ≤ 1000000000) :
    Calls Try.prog 19 #[.pointer (some ⟨q, 0, none⟩), .int .i64 node] w (RefLost w base q nodes node l) := by
  obtain ⟨hbq, rv, ps, h1, rfl, hR⟩ := h
  rw [List.length_map] at hroom
  obtain ⟨c0, c1, c2⟩ := h1.cells
  have hq := h1.lt
  obtain ⟨R, rc, rfl⟩ := hR.form
  obtain ⟨n, hn⟩ : ∃ n, ps.length = n := ⟨_, rfl⟩
  obtain ⟨f, hf⟩ : ∃ f : Mail3 × Value → Bool, (fun p => keeps3 node p.1) = f := ⟨_, rfl⟩
  have HR := Lib.hid hR
  have H1 := Lib.hid h1
  have HN := Lib.hid hn
  have HF := Lib.hid hf
  rw [hn] at hroom
  clear h1 hR c1 c0 c2 hn hf
  go_enter Try.func19, Try.ntmps19
  go_wp2_with fail
  go_loopw [5, 6, 7] (fun v cv kv wr => ∃ k c : Nat, kv = .int .i64 k ∧ cv = .int .i64 c ∧ c + ((ps.take k).filter f).length = k ∧ k ≤ n ∧ wr.ownsRow w.heap.size 34 3 v ((ps.take k).filter f).length (flatK ((ps.take k).filter f)) ∧ Below w.heap.size w wr) (fun _ _ kv _ => n - (intOf kv).toNat)
  case atStart => exact ⟨0, 0, rfl, rfl, by simp, Nat.zero_le _, by simpa [flatK] using World.ownsRow_nil w w.heap.size 34 3, Below.refl _ _⟩
  case round =>
    obtain ⟨k, c, rfl, rfl, hcn, hk, hrow, hBr⟩ := hrel
    have hR' := HR.out.below hBr
    have h1' : RB wr q nodes (.slice R ps.length rc) := (hBr.block q hq).trans H1.out
    obtain ⟨-, c1, c2⟩ := h1'.cells
    have c21 := c2 1
    rw [HN.out] at c1
    have hqr : q < wr.heap.size := Nat.lt_of_lt_of_le hq hBr.size
    have hsr := hBr.size
    obtain ⟨pl, hpl⟩ : ∃ pl, ((ps.take k).filter f).length = pl := ⟨_, rfl⟩
    have HPL := Lib.hid hpl
    rw [hpl] at hrow hcn
    obtain ⟨A7, c7, rfl⟩ := row_form hrow
    have HROW := Lib.hid hrow
    have HBr := Lib.hid hBr
    have HC := Lib.hid hcn
    by_cases hlt : k < n
    · obtain ⟨y, hy⟩ : ∃ y, ps[k]? = some y := ⟨_, List.getElem?_eq_getElem (by rw [HN.out]; exact hlt)⟩
      obtain ⟨g, rfl, _, hgr, hnc, f0, f1, f2, hOy, _⟩ := hR'.cell rfl hy
      rw [HN.out] at hnc
      have hst := filter_step f hy
      have hfy : f y = keeps3 node y.1 := by rw [← HF.out]
      have hkI : (k : Int) < (n : Int) := by omega
      have hlen : pl ≤ 1000000000 := by omega
      have hcb : c ≤ 1000000000 := by omega
      obtain ⟨⟨S2, D2, bs2⟩, u2⟩ := y
      simp only at f0 f1 f2 hOy
      obtain ⟨A9, c9, rfl⟩ := hOy.bytes.form
      obtain ⟨bl, hbl⟩ : ∃ bl, bs2.length = bl := ⟨_, rfl⟩
      rw [hbl] at f2 hst hfy
      by_cases hit : S2 = node ∨ D2 = node
      · have hff : f (⟨S2, D2, bs2⟩, .slice A9 bl c9) = false := by rw [hfy]; rcases hit with h | h <;> simp [keeps3, keeps, hits, Mail3.msg, h]
        rw [hff] at hst
        simp only [Bool.false_eq_true, if_false] at hst
        have HST := Lib.hid hst
        clear hst hrow hBr hR' h1' hOy hy c2 hfy hff hbl hpl hcn
        by_cases hS : S2 = node
        · subst hS
          clear hit
          go_wp2_with fail
          go_roundw
          case rel => exact ⟨k + 1, c + 1, by go_num, by go_num, by have := HC.out; rw [HST.out, HPL.out]; omega, by omega, by rw [HST.out, HPL.out]; exact HROW.out, HBr.out⟩
          case measure => simp [intOf]; omega
        · obtain rfl : D2 = node := by rcases hit with h | h; exact absurd h hS; exact h
          have hne : (S2 == D2) = false := by rw [beq_eq_false_iff_ne]; exact hS
          clear hit
          go_wp2_with fail
          go_roundw
          case rel => exact ⟨k + 1, c + 1, by go_num, by go_num, by have := HC.out; rw [HST.out, HPL.out]; omega, by omega, by rw [HST.out, HPL.out]; exact HROW.out, HBr.out⟩
          case measure => simp [intOf]; omega
      · have hS : S2 ≠ node := fun h => hit (.inl h)
        have hD : D2 ≠ node := fun h => hit (.inr h)
        have hff : f (⟨S2, D2, bs2⟩, .slice A9 bl c9) = true := by rw [hfy]; simp [keeps3, keeps, hits, Mail3.msg, hS, hD]
        rw [hff] at hst
        simp only [if_true] at hst
        have hne : (S2 == node) = false := by rw [beq_eq_false_iff_ne]; exact hS
        have hne2 : (D2 == node) = false := by rw [beq_eq_false_iff_ne]; exact hD
        have hb3 := (Below.refl wr.heap.size wr).alloc (Nat.le_refl _) (.cells #[.int .i64 S2, .int .i64 D2, .slice A9 bl c9] 34)
        obtain ⟨A', c', W', hrun, hrow', hB'⟩ := left_append (x := (⟨S2, D2, bs2⟩, .slice A9 bl c9)) (row_below (by rw [hpl]; exact hrow) hb3) (Nat.le_trans hsr hb3.size) 29 wr.heap.size (heap_alloc_new wr _) rfl (by rw [hpl]; exact hlen)
        rw [hpl] at hrun hrow'
        have HRUN := Lib.hid hrun
        have HL : Hid (((ps.take (k + 1)).filter f).length = pl + 1) := by rw [hst, List.length_append, hpl]; exact Lib.hid rfl
        have HROW' : Hid (W'.ownsRow w.heap.size 34 3 (.slice A' (pl + 1) c') ((ps.take (k + 1)).filter f).length (flatK ((ps.take (k + 1)).filter f))) := by
          rw [hst, List.length_append, hpl]; exact hrow'
        have HB' := Lib.hid (hBr.trans ((hb3.mono hsr).trans hB'))
        clear hst hrow hBr hR' h1' hOy hy hrun hrow' hB' hb3 hbl c2 hpl hfy hff hit hS hD hcn
        go_wp2_with (at_builtin; refine wpList_append_ran rfl _ _ _ rfl rfl rfl HRUN.out ?_)
        go_roundw
        case rel => exact ⟨k + 1, c, by go_num, rfl, by have := HC.out; rw [HL.out]; omega, by omega, HROW'.out, HB'.out⟩
        case measure => simp [intOf]; omega
    · obtain rfl : k = n := by omega
      have hall : (ps.take k).filter f = ps.filter f := by rw [← HN.out, List.take_length]
      rw [hall] at hrow
      have hpl' : (ps.filter f).length = pl := by rw [← hpl, hall]
      obtain ⟨hP, hF⟩ := refSet (ps := ps) hbq hbase (Nat.le_refl _) H1.out HR.out hBr (fun p hp => (List.mem_filter.1 hp).1) hpl' hrow
      have hmap : (ps.filter f).map (·.1) = (ps.map (·.1)).filter (keeps3 node) := by rw [← HF.out, List.filter_map]; rfl
      rw [hmap] at hP
      have hFIN : RefLost w base q nodes node (ps.map (·.1)) (.returned (.int .i64 (c : Nat))) (wr.setCell ⟨q, 1, none⟩ (.slice A7 pl c7)) := by
        refine ⟨?_, hP, hF⟩
        rw [← hmap, List.length_map, List.length_map, HN.out, hpl', ← hcn]
        congr 2
        omega
      have HFIN := Lib.hid hFIN
      clear hFIN hF hP hrow hBr hpl hall hpl' hmap hR' hcn
      go_wp2_with fail
      go_ret
      exact HFIN.out

end Go.Proofs.Ytjcgkjjomiapoaa.Mail
