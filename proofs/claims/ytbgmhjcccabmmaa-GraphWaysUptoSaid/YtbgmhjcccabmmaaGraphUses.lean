/-
  Contracts of graph.Uses and of the document's Uses: the row of all uses.
-/
import Derived.Test.YtbgmhjcccabmmaaGraphUsesMath
import Derived.Test.YtbgmhjcccabmmaaGraphRefCheck
import Derived.Test.YtbgmhjcccabmmaaRowTwo
namespace Go.Proofs.Ytbgmhjcccabmmaa.Graph
open Go Go.RowKit Go.Proofs.Ytbgmhjcccabmmaa.Law

abbrev pf : Nat × Nat → Value := fun p => .int .i64 (p.1 : Nat)
abbrev ps : Nat × Nat → Value := fun p => .int .i64 (p.2 : Nat)
theorem info_use : (Try.prog.info? 55).map (fun i => (i.zero, i.size, i.bytes)) = some (some (.agg #[.int .i64 0, .int .i64 0]), 2, 16) := by kernel_rfl
theorem info_Use : (Try.prog.info? 39).map (fun i => (i.zero, i.size, i.bytes)) = some (some (.agg #[.int .i64 0, .int .i64 0]), 2, 16) := by kernel_rfl

/-- What lies as uses are gathered: the box at B has the row, all of it of the call's own. -/
structure UBox (w W : World) (b0 B : Nat) (L : List (Nat × Nat)) (v : Value) : Prop where
  low : Below b0 w W
  box : W.heap[B]? = some (.cells #[v] 53)
  row : OwnTwo pf ps 55 W (B + 1) v L

/-- What Uses answers: the iterator, over a box that has the row of all uses. -/
def RetUses (w : World) (L : List (Nat × Nat)) (e : Ending) (W : World) : Prop := ∃ (B : Nat) (v : Value), e = .returned (.func (.func 21) #[] #[.pointer (some ⟨B, 0, none⟩)]) ∧ UBox w W w.heap.size B L v ∧ w.heap.size ≤ B

theorem UBox.more {w W : World} {b0 B : Nat} {L : List (Nat × Nat)} {v : Value} (h : UBox w W b0 B L v) (h0 : b0 ≤ B) (x : Nat × Nat) (hlen : L.length + 1 ≤ 4294967296) (ty : TypeId) :
    ∃ v' W', (Builtin.append_ #[53, 53] ty #[v, .slice (some ⟨W.heap.size, 0, none⟩) 1 1]).run Try.prog (W.alloc (.cells #[pf x, ps x] 55)) = .ok v' W' ∧ UBox w (W'.setCell ⟨B, 0, none⟩ v') b0 B (L ++ [x]) v' ∧
      W'.cell? ⟨B, 0, none⟩ = some v ∧ W'.frozen? ⟨B, 0, none⟩ = false ∧ W.heap.size ≤ W'.heap.size ∧ Below (B + 1) W W' := by
  obtain ⟨i0, hi, hz0, hz1, hz2⟩ := info_parts info_use
  have hB : B < W.heap.size := lt_of_some h.box
  obtain ⟨v', W', hrun, hown, hgr, hob⟩ := h.row.append (P := Try.prog) W (t := 53) ty (fun _ => rfl) (fun _ => rfl) Try.underlying53 hi hz0 hz1 hz2 rfl (by omega) x (by unfold maxLen; omega) (by omega)
  have hlow : Below (B + 1) W W' := (Below.refl _ _).grown hgr (by omega) (fun k hk => (h.row.own hk).1)
  have hbx := (hlow.block B (by omega)).trans h.box
  obtain ⟨c, f⟩ := box1 hbx
  refine ⟨v', W', hrun, ⟨?_, stored1 hbx v', ?_⟩, c, f, hgr.size, hlow⟩
  · exact (h.low.trans (hlow.mono (by omega))).setCell (p := ⟨B, 0, none⟩) h0 v'
  · refine hown.keep fun b hb => Below.heap_setCell _ _ _ _ ?_
    have := (hown.own hb).1
    show b ≠ B
    omega

set_option maxRecDepth 100000 in
set_option maxHeartbeats 8000000 in
theorem uses_calls (l : List Opr) (hl : l.length * 72 ≤ 140737488351232) (hin : ∀ x ∈ l, x.ins.length * 8 ≤ 140737488351232) (hsum : insN l ≤ 1048576) (fr : Int) (v : Value) (w : World) (h : OldO w.heap.size w v l) :
    Calls Try.prog 12 #[.agg #[v], .int .i64 fr] w (RetUses w (usesL l fr)) := by
  obtain ⟨A, cap, rfl, _⟩ := h.form
  obtain ⟨n, hn⟩ : ∃ n, l.length = n := ⟨_, rfl⟩
  rw [hn] at h hl ⊢
  obtain ⟨w0, hw0⟩ : ∃ w0, (w.alloc (.cells #[.slice A n cap] 24)).alloc (.cells #[.slice none 0 0] 53) = w0 := ⟨_, rfl⟩
  have hU : UBox w w0 w.heap.size (w.heap.size + 1) [] (.slice none 0 0) := by
    rw [← hw0]
    refine ⟨two_low _ _ _, ?_, OwnTwo.nil _ _ _⟩
    have := heap_alloc_new (w.alloc (.cells #[.slice A n cap] 24)) (.cells #[.slice none 0 0] 53)
    rwa [World.size_alloc] at this
  have HL := Lib.hid hn
  have HI := Lib.hid h
  have HIN := Lib.hid hin
  have HS := Lib.hid hsum
  have HW := Lib.hid hw0
  have HU := Lib.hid hU
  clear hn h hin hw0 hU hsum
  go_enter Try.func12, Try.ntmps12
  go_wp2_with fail
  rw [HW.out]
  go_loopw [13] (fun i wr => ∃ k : Nat, i = .int .i64 k ∧ k ≤ n ∧ Hid (∃ u, UBox w wr w.heap.size (w.heap.size + 1) (uAll l fr k) u)) (fun i _ => n - (intOf i).toNat)
  case atStart => exact ⟨0, rfl, Nat.zero_le _, Lib.hid ⟨_, HU.out⟩⟩
  case round =>
    obtain ⟨k, rfl, hk, HR⟩ := hrel
    obtain ⟨u0, hUr⟩ := HR.out
    clear HR
    by_cases hlt : k < n
    · obtain ⟨x, hx⟩ : ∃ x, l[k]? = some x := ⟨_, List.getElem?_eq_getElem (by rw [HL.out]; exact hlt)⟩
      have hBw : Below w.heap.size w wr := hUr.low
      obtain ⟨b, off, rfl, hb, hcells⟩ := HI.out.at (by omega)
      obtain ⟨u, hc7, hi⟩ := hcells k x hx
      obtain ⟨A', cap', rfl, _⟩ := hi.form
      obtain ⟨c0, c1, c2, c3, c4, c5, c6⟩ := hc7.keep (hBw.block b hb)
      clear hc7
      obtain ⟨m, hm⟩ : ∃ m, x.ins.length = m := ⟨_, rfl⟩
      have hxin := HIN.out x (List.mem_of_getElem? hx)
      have hsx := insN_le hx
      have hua := uAll_le l fr k (by rw [HL.out]; omega)
      obtain ⟨W1, hW1⟩ : ∃ W1, wr.alloc (.cells #[.int .i64 x.kind, .slice A' x.ins.length cap', .int .i64 x.arg, .int .u32 (x.num : Nat), .int .i64 x.rounds, .int .i64 x.test, .int .u32 (x.lim : Nat)] 49) = W1 := ⟨_, rfl⟩
      have hB1 : Below wr.heap.size wr W1 := by rw [← hW1]; exact alloc_low _ _
      have hbx := heap_alloc_new wr (.cells #[.int .i64 x.kind, .slice A' x.ins.length cap', .int .i64 x.arg, .int .u32 (x.num : Nat), .int .i64 x.rounds, .int .i64 x.test, .int .u32 (x.lim : Nat)] 49)
      rw [hW1] at hbx
      obtain ⟨⟨d0, d1, d2, d3, d4, d5, d6⟩, -⟩ := box7 hbx
      have hsw : w.heap.size + 1 < wr.heap.size := lt_of_some hUr.box
      have hU1 : UBox w W1 w.heap.size (w.heap.size + 1) (uAll l fr k ++ uIn x.ins k fr 0) u0 := by
        rw [uIn, List.append_nil]
        exact ⟨hUr.low.trans (hB1.mono (by omega)), (hB1.block _ hsw).trans hUr.box, hUr.row.below hB1⟩
      rw [hm] at c1 hbx d1 hW1 hxin hi hsx
      have HW1 := Lib.hid hW1
      have HX := Lib.hid hx
      have HM := Lib.hid hm
      have HU1 := Lib.hid hU1
      have HUA := Lib.hid hua
      have HSX := Lib.hid hsx
      have HI2 := Lib.hid hi
      clear hcells hbx hx hm hUr hU1 hW1 hua hsx hi
      go_wp2_with fail
      rw [HW1.out]
      obtain ⟨wo, rfl⟩ : ∃ x, x = wr := ⟨_, rfl⟩
      have HBW := Lib.hid hBw
      clear c0 c1 c2 c3 c4 c5 c6 d0 d1 d2 d3 d4 d5 d6 hB1 hBw
      go_loopw [21] (fun i wr => ∃ j : Nat, i = .int .i64 j ∧ j ≤ m ∧ Hid (∃ u, UBox w wr w.heap.size (w.heap.size + 1) (uAll l fr k ++ uIn x.ins k fr j) u)) (fun i _ => m - (intOf i).toNat)
      case atStart => exact ⟨0, rfl, Nat.zero_le _, Lib.hid ⟨_, HU1.out⟩⟩
      case round =>
        obtain ⟨j, rfl, hj, HR⟩ := hrel
        obtain ⟨u1, hUr⟩ := HR.out
        clear HR
        by_cases hjm : j < m
        · obtain ⟨y, hy⟩ : ∃ y, x.ins[j]? = some y := ⟨_, List.getElem?_eq_getElem (by rw [HM.out]; exact hjm)⟩
          have hBw : Below w.heap.size w wr := hUr.low
          obtain ⟨b'', off'', rfl, hb'', hcells''⟩ := (IntsAt.low hBw HI2.out).at (by omega)
          have c := hcells'' j y hy
          clear hcells''
          by_cases hyf : y = fr
          · subst hyf
            have hlen1 : (uAll l y k ++ uIn x.ins k y j).length + 1 ≤ 4294967296 := by
              have h1 := HUA.out
              have h2 := HSX.out
              have h3 := uIn_le x.ins k y j
              have h4 := HS.out
              rw [List.length_append]
              omega
            obtain ⟨v2, W2, hrun, hU2, q0, q1, hs2, hlow2⟩ := hUr.more (by omega) (k, j) hlen1 53
            have hnx : uAll l y k ++ uIn x.ins k y j ++ [(k, j)] = uAll l y k ++ uIn x.ins k y (j + 1) := by rw [uIn, if_pos hy, List.append_assoc]
            rw [hnx] at hU2
            have hsw : w.heap.size + 1 < wr.heap.size := lt_of_some hUr.box
            have hsw2 : w.heap.size + 1 < W2.heap.size := by omega
            obtain ⟨e0, e1⟩ := box1 hUr.box
            obtain ⟨A1, cp1, hu1, _⟩ := hUr.row.form
            obtain ⟨A2, cp2, hv2, _⟩ := hU2.row.form
            obtain ⟨n1, hn1⟩ : ∃ n1, (uAll l y k ++ uIn x.ins k y j).length = n1 := ⟨_, rfl⟩
            obtain ⟨n2, hn2⟩ : ∃ n2, (uAll l y k ++ uIn x.ins k y (j + 1)).length = n2 := ⟨_, rfl⟩
            rw [hn1] at hu1
            rw [hn2] at hv2
            subst hu1
            subst hv2
            have HRUN := Lib.hid hrun
            have HNX : Hid (∃ u, UBox w (W2.setCell ⟨w.heap.size + 1, 0, none⟩ (.slice A2 n2 cp2)) w.heap.size (w.heap.size + 1) (uAll l y k ++ uIn x.ins k y (j + 1)) u) := Lib.hid ⟨_, hU2⟩
            clear hUr hnx hy hrun hU2 hn1 hn2 hlen1 hs2 hlow2
            go_wp2_with (at_builtin; refine wpList_append_ran rfl _ _ _ rfl rfl rfl HRUN.out ?_)
            go_roundw
            case rel => exact ⟨j + 1, by go_num, by omega, HNX⟩
            case measure => simp [intOf]; omega
          · have hyb : (y == fr) = false := beq_eq_false_iff_ne.2 hyf
            have hnx : uIn x.ins k fr (j + 1) = uIn x.ins k fr j := by rw [uIn, if_neg (by rw [hy]; simpa using hyf), List.append_nil]
            have HNX : Hid (∃ u, UBox w wr w.heap.size (w.heap.size + 1) (uAll l fr k ++ uIn x.ins k fr (j + 1)) u) := Lib.hid (by rw [hnx]; exact ⟨_, hUr⟩)
            clear hUr hnx hy hyf
            go_wp2_with fail
            go_roundw
            case rel => exact ⟨j + 1, by go_num, by omega, HNX⟩
            case measure => simp [intOf]; omega
        · obtain rfl : j = m := by omega
          have HNX : Hid (∃ u, UBox w wr w.heap.size (w.heap.size + 1) (uAll l fr (k + 1)) u) := Lib.hid (by rw [uAll, uOp, HX.out]; dsimp only; rw [HM.out]; exact ⟨_, hUr⟩)
          clear hUr
          go_wp2_with fail
          go_roundw
          case rel => exact ⟨k + 1, by go_num, by omega, HNX⟩
          case measure => simp [intOf]; omega
    · obtain rfl : k = n := by omega
      have hfin : UBox w wr w.heap.size (w.heap.size + 1) (usesL l fr) u0 := by rw [usesL, HL.out]; exact hUr
      have HF := Lib.hid hfin
      clear hUr hfin
      go_wp2_with fail
      go_ret
      exact ⟨w.heap.size + 1, u0, rfl, HF.out, by omega⟩

end Go.Proofs.Ytbgmhjcccabmmaa.Graph
