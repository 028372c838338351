/-
  Contract of the document's Uses: the row of all uses.
-/
import Derived.Test.YtbgmhjcccabmmaaGraphUses
namespace Go.Proofs.Ytbgmhjcccabmmaa.Graph
open Go Go.RowKit Go.Proofs.Ytbgmhjcccabmmaa.Law

/-- What the document's Uses answers. -/
def RetRef (w : World) (L : List (Nat × Nat)) (e : Ending) (W : World) : Prop := ∃ v : Value, e = .returned v ∧ OwnTwo pf ps 39 W w.heap.size v L ∧ Below w.heap.size w W

/-- What lies as they are gathered. -/
structure RU (w w0 W : World) (L : List (Nat × Nat)) (v : Value) : Prop where
  low : Below (w.heap.size + 1) w0 W
  row : OwnTwo pf ps 39 W (w.heap.size + 1) v L

theorem RU.more {w w0 W : World} {L : List (Nat × Nat)} {v : Value} (h : RU w w0 W L v) (hs : w.heap.size + 1 ≤ W.heap.size) (x : Nat × Nat) (hlen : L.length + 1 ≤ 4294967296) (ty : TypeId) :
    ∃ v' W', (Builtin.append_ #[32, 32] ty #[v, .slice (some ⟨W.heap.size, 0, none⟩) 1 1]).run Try.prog (W.alloc (.cells #[pf x, ps x] 39)) = .ok v' W' ∧ RU w w0 W' (L ++ [x]) v' := by
  obtain ⟨i0, hi, hz0, hz1, hz2⟩ := info_parts info_Use
  obtain ⟨v', W', hrun, hown, hgr, hob⟩ := h.row.append (P := Try.prog) W (t := 32) ty (fun _ => rfl) (fun _ => rfl) Try.underlying32 hi hz0 hz1 hz2 rfl hs x (by unfold maxLen; omega) (by omega)
  have hlow : Below (w.heap.size + 1) W W' := (Below.refl _ _).grown hgr hs (fun k hk => (h.row.own hk).1)
  exact ⟨v', W', hrun, h.low.trans hlow, hown⟩

set_option maxRecDepth 100000 in
set_option maxHeartbeats 8000000 in
theorem refUses_calls (l : List Opr) (hl : l.length * 72 ≤ 140737488351232) (hin : ∀ x ∈ l, x.ins.length * 8 ≤ 140737488351232) (hsum : insN l ≤ 1048576) (fr : Int) (v : Value) (w : World) (h : OldO w.heap.size w v l) :
    Calls Try.prog 11 #[.agg #[v], .int .i64 fr] w (RetRef w (usesL l fr)) := by
  obtain ⟨A, cap, rfl, _⟩ := h.form
  obtain ⟨n, hn⟩ : ∃ n, l.length = n := ⟨_, rfl⟩
  rw [hn] at h hl ⊢
  obtain ⟨w0, hw0⟩ : ∃ w0, w.alloc (.cells #[.slice A n cap] 24) = w0 := ⟨_, rfl⟩
  have hB0 : Below w.heap.size w w0 := by rw [← hw0]; exact alloc_low _ _
  have hb0 : w0.heap[w.heap.size]? = some (.cells #[.slice A n cap] 24) := by rw [← hw0]; exact heap_alloc_new w _
  have hs0 : w0.heap.size = w.heap.size + 1 := by rw [← hw0]; simp
  have HL := Lib.hid hn
  have HI := Lib.hid h
  have HIN := Lib.hid hin
  have HS := Lib.hid hsum
  have HW := Lib.hid hw0
  have HB0 := Lib.hid hB0
  have HBX := Lib.hid hb0
  have HS0 := Lib.hid hs0
  clear hn h hin hw0 hsum hB0 hb0 hs0
  go_enter Try.func11, Try.ntmps11
  go_wp2_with fail
  rw [HW.out]
  go_loopw [5, 6] (fun p i wr => ∃ (k : Nat) (A1 : Option Addr) (n1 c1 : Nat), i = .int .i64 k ∧ p = .slice A1 n1 c1 ∧ k ≤ n ∧ Hid (RU w w0 wr (uAll l fr k) (.slice A1 n1 c1))) (fun _ i _ => n - (intOf i).toNat)
  case atStart => exact ⟨0, none, 0, 0, rfl, rfl, Nat.zero_le _, Lib.hid ⟨Below.refl _ _, OwnTwo.nil _ _ _⟩⟩
  case round =>
    obtain ⟨k, A1, n1, cp1, rfl, rfl, hk, HR⟩ := hrel
    have hs : w.heap.size + 1 ≤ wr.heap.size := by have := HR.out.low.size; have := HS0.out; omega
    obtain ⟨r0, _⟩ := box1 ((HR.out.low.block w.heap.size (by omega)).trans HBX.out)
    by_cases hlt : k < n
    · obtain ⟨x, hx⟩ : ∃ x, l[k]? = some x := ⟨_, List.getElem?_eq_getElem (by rw [HL.out]; exact hlt)⟩
      obtain ⟨b, off, rfl, hb, hcells⟩ := HI.out.at (by omega)
      obtain ⟨u, hc7, hi⟩ := hcells k x hx
      obtain ⟨A', cap', rfl, _⟩ := hi.form
      obtain ⟨m, hm⟩ : ∃ m, x.ins.length = m := ⟨_, rfl⟩
      have hxin := HIN.out x (List.mem_of_getElem? hx)
      have hsx := insN_le hx
      have hua := uAll_le l fr k (by rw [HL.out]; omega)
      rw [hm] at hxin hi hsx hc7
      have HI2 := Lib.hid hi
      have HX := Lib.hid hx
      have HM := Lib.hid hm
      have HUA := Lib.hid hua
      have HSX := Lib.hid hsx
      have HC7 := Lib.hid hc7
      have HR1 : Hid (RU w w0 wr (uAll l fr k ++ uIn x.ins k fr 0) (.slice A1 n1 cp1)) := Lib.hid (by rw [uIn, List.append_nil]; exact HR.out)
      clear hcells hx hm hua hsx hi hc7 HR
      go_wp2_with fail
      obtain ⟨wo, rfl⟩ : ∃ x, x = wr := ⟨_, rfl⟩
      clear r0
      go_loopw [5, 7] (fun p i wr => ∃ (j : Nat) (A1 : Option Addr) (n1 c1 : Nat), i = .int .i64 j ∧ p = .slice A1 n1 c1 ∧ j ≤ m ∧ Hid (RU w w0 wr (uAll l fr k ++ uIn x.ins k fr j) (.slice A1 n1 c1))) (fun _ i _ => m - (intOf i).toNat)
      case atStart => exact ⟨0, _, _, _, rfl, rfl, Nat.zero_le _, HR1⟩
      case round =>
        obtain ⟨j, A2, n2, cp2, rfl, rfl, hj, HR⟩ := hrel
        have hs : w.heap.size + 1 ≤ wr.heap.size := by have := HR.out.low.size; have := HS0.out; omega
        obtain ⟨r0, _⟩ := box1 ((HR.out.low.block w.heap.size (by omega)).trans HBX.out)
        have hBw : Below w.heap.size w wr := HB0.out.trans (HR.out.low.mono (by omega))
        obtain ⟨c0, c1, c2, c3, c4, c5, c6⟩ := HC7.out.keep (hBw.block b hb)
        by_cases hjm : j < m
        · obtain ⟨y, hy⟩ : ∃ y, x.ins[j]? = some y := ⟨_, List.getElem?_eq_getElem (by rw [HM.out]; exact hjm)⟩
          obtain ⟨b'', off'', rfl, hb'', hcells''⟩ := (IntsAt.low hBw HI2.out).at (by omega)
          have c := hcells'' j y hy
          clear hcells''
          by_cases hyf : y = fr
          · subst hyf
            have hlen1 : (uAll l y k ++ uIn x.ins k y j).length + 1 ≤ 4294967296 := by
              have h1 := HUA.out
              have h2 := HSX.out
              have h3 := uIn_le x.ins k y j
              have h4 := HS.out
              rw [List.length_append]
              omega
            obtain ⟨v2, W2, hrun, hU2⟩ := HR.out.more hs (k, j) hlen1 32
            have hnx : uAll l y k ++ uIn x.ins k y j ++ [(k, j)] = uAll l y k ++ uIn x.ins k y (j + 1) := by rw [uIn, if_pos hy, List.append_assoc]
            rw [hnx] at hU2
            obtain ⟨A3, cp3, hv3, _⟩ := hU2.row.form
            obtain ⟨n3, hn3⟩ : ∃ n3, (uAll l y k ++ uIn x.ins k y (j + 1)).length = n3 := ⟨_, rfl⟩
            rw [hn3] at hv3
            subst hv3
            have HRUN := Lib.hid hrun
            have HNX := Lib.hid hU2
            clear HR hnx hy hrun hU2 hn3 hlen1 hBw
            go_wp2_with (at_builtin; refine wpList_append_ran rfl _ _ _ rfl rfl rfl HRUN.out ?_)
            go_roundw
            case rel => exact ⟨j + 1, _, _, _, by go_num, rfl, by omega, HNX⟩
            case measure => simp [intOf]; omega
          · have hyb : (y == fr) = false := beq_eq_false_iff_ne.2 hyf
            have hnx : uIn x.ins k fr (j + 1) = uIn x.ins k fr j := by rw [uIn, if_neg (by rw [hy]; simpa using hyf), List.append_nil]
            have HNX : Hid (RU w w0 wr (uAll l fr k ++ uIn x.ins k fr (j + 1)) (.slice A2 n2 cp2)) := Lib.hid (by rw [hnx]; exact HR.out)
            clear HR hnx hy hyf hBw
            go_wp2_with fail
            go_roundw
            case rel => exact ⟨j + 1, _, _, _, by go_num, rfl, by omega, HNX⟩
            case measure => simp [intOf]; omega
        · obtain rfl : j = m := by omega
          have HNX : Hid (RU w w0 wr (uAll l fr (k + 1)) (.slice A2 n2 cp2)) := Lib.hid (by rw [uAll, uOp, HX.out]; dsimp only; rw [HM.out]; exact HR.out)
          clear HR hBw
          go_wp2_with fail
          go_roundw
          case rel => exact ⟨k + 1, _, _, _, by go_num, rfl, by omega, HNX⟩
          case measure => simp [intOf]; omega
    · obtain rfl : k = n := by omega
      have hfin : RU w w0 wr (usesL l fr) (.slice A1 n1 cp1) := by rw [usesL, HL.out]; exact HR.out
      have HF := Lib.hid hfin
      clear HR hfin
      go_wp2_with fail
      go_ret
      refine ⟨_, rfl, ?_, HB0.out.trans (HF.out.low.mono (by omega))⟩
      have h := HF.out.row
      refine ⟨h.1, ?_⟩
      rcases h.2 with h0 | ⟨g, cap, cur, e, h1, h2⟩
      · exact .inl h0
      · exact .inr ⟨g, cap, cur, e, by omega, h2⟩

end Go.Proofs.Ytbgmhjcccabmmaa.Graph
