/-
  Contract of graph.Check.
-/
import Derived.Test.YtmfndimejnbgkaaGraphIns
namespace Go.Proofs.Ytmfndimejnbgkaa.Graph
open Go Go.RowKit Go.Proofs.Ytmfndimejnbgkaa.Law

/-- What Check answers; nothing that lay has turned. -/
def RetChk (w : World) (l : List Opr) (e : Ending) (W : World) : Prop := ∃ i er : Int, e = .returned (.tuple #[.int .i64 i, .int .i64 er]) ∧ Chk l i er ∧ Below w.heap.size w W

theorem chk_bad {l : List Opr} {k : Nat} (hk : k < l.length) (h16 : l.length ≤ 16) (hb : ∀ j, j < k → okAt l j) (hn : ¬ okAt l k) : Chk l k 13 :=
  .inr ⟨by omega, h16, .inl ⟨k, hk, hb, hn, rfl, rfl⟩⟩
theorem chk_ok {l : List Opr} (h1 : 1 ≤ l.length) (h16 : l.length ≤ 16) (hb : ∀ j, j < l.length → okAt l j) : Chk l 0 0 := .inr ⟨h1, h16, .inr ⟨hb, rfl, rfl⟩⟩
theorem chk_long {l : List Opr} (h : l.length = 0 ∨ 16 < l.length) : Chk l 0 2 := .inl ⟨h, rfl, rfl⟩

set_option maxRecDepth 100000 in
set_option maxHeartbeats 4000000 in
theorem check_calls (l : List Opr) (hl : l.length * 72 ≤ 140737488351232) (hin : ∀ x ∈ l, x.ins.length * 8 ≤ 140737488351232) (v : Value) (w : World) (h : OldO w.heap.size w v l) :
    Calls Try.prog 33 #[.agg #[v]] w (RetChk w l) := by
  obtain ⟨A, cap, rfl, _⟩ := h.form
  obtain ⟨n, hn⟩ : ∃ n, l.length = n := ⟨_, rfl⟩
  rw [hn] at h hl ⊢
  obtain ⟨w0, hw0⟩ : ∃ w0, w.alloc (.cells #[.slice A n cap] 30) = w0 := ⟨_, rfl⟩
  have hB0 : Below w.heap.size w w0 := by rw [← hw0]; exact alloc_low _ _
  have hb0 : w0.heap[w.heap.size]? = some (.cells #[.slice A n cap] 30) := by rw [← hw0]; exact heap_alloc_new w _
  obtain ⟨c0, _⟩ := box1 hb0
  have HL := Lib.hid hn
  have HI := Lib.hid h
  have HIN := Lib.hid hin
  have HW := Lib.hid hw0
  have HB0 := Lib.hid hB0
  clear hn h hin hw0 hB0 hb0
  by_cases h0 : n = 0
  · subst h0
    go_enter Try.func33, Try.ntmps33
    go_wp2_with fail
    rw [HW.out]
    go_ret2
    exact ⟨0, 2, rfl, chk_long (.inl HL.out), HB0.out⟩
  · by_cases h16 : 16 < n
    · have g0 : ((n : Int) == 0) = false := by rw [beq_eq_false_iff_ne]; omega
      have h16' : 16 < (n : Int) := by omega
      go_enter Try.func33, Try.ntmps33
      go_wp2_with fail
      rw [HW.out]
      go_ret2
      exact ⟨0, 2, rfl, chk_long (.inr (by rw [HL.out]; exact h16)), HB0.out⟩
    · have g0 : ((n : Int) == 0) = false := by rw [beq_eq_false_iff_ne]; omega
      have hd : decide (16 < n) = false := decide_eq_false h16
      have hdI : decide (16 < (n : Int)) = false := decide_eq_false (by omega)
      have hn1 : 1 ≤ n := by omega
      go_enter Try.func33, Try.ntmps33
      go_wp2_with fail
      rw [HW.out]
      go_loopw [25] (fun i wr => ∃ k : Nat, i = .int .i64 k ∧ k ≤ n ∧ (∀ j, j < k → okAt l j) ∧ Below w.heap.size w wr) (fun i _ => n - (intOf i).toNat)
      case atStart => exact ⟨0, rfl, Nat.zero_le _, fun _ h => absurd h (Nat.not_lt_zero _), HB0.out⟩
      case round =>
        obtain ⟨k, rfl, hk, hok, hB⟩ := hrel
        have HOK := Lib.hid hok
        have HB := Lib.hid hB
        have hs := hB.size
        clear hok hB
        by_cases hlt : k < n
        · obtain ⟨x, hx⟩ : ∃ x, l[k]? = some x := ⟨_, List.getElem?_eq_getElem (by rw [HL.out]; exact hlt)⟩
          obtain ⟨b, off, rfl, hb, hcells⟩ := (OpsAt.low HB.out HI.out).at (by omega)
          obtain ⟨u, ⟨c0, c1, c2, c3, c4, c5, c6⟩, hi⟩ := hcells k x hx
          obtain ⟨A', cap', rfl, _⟩ := hi.form
          obtain ⟨m, hm⟩ : ∃ m, x.ins.length = m := ⟨_, rfl⟩
          have hxin := HIN.out x (List.mem_of_getElem? hx)
          obtain ⟨g1, hg1⟩ := exB (insP x k)
          obtain ⟨g2, hg2⟩ := exB (formP x)
          obtain ⟨W1, hW1⟩ : ∃ W1, wr.alloc (.cells #[.int .i64 x.kind, .slice A' x.ins.length cap', .int .i64 x.arg, .int .u32 (x.num : Nat), .int .i64 x.rounds, .int .i64 x.test, .int .u32 (x.lim : Nat)] 27) = W1 := ⟨_, rfl⟩
          have hB1 : Below wr.heap.size wr W1 := by rw [← hW1]; exact alloc_low _ _
          have hbx := heap_alloc_new wr (.cells #[.int .i64 x.kind, .slice A' x.ins.length cap', .int .i64 x.arg, .int .u32 (x.num : Nat), .int .i64 x.rounds, .int .i64 x.test, .int .u32 (x.lim : Nat)] 27)
          rw [hW1] at hbx
          have hs1 : wr.heap.size < W1.heap.size := by rw [← hW1]; simp
          obtain ⟨⟨d0, d1, d2, d3, d4, d5, d6⟩, -⟩ := box7 hbx
          have CI := rightInputs_calls x hxin _ k g1 hg1 W1 ((hi.keep (T := fun j => j < wr.heap.size) (fun j hj => rfl) (fun j hj => by have := hj; omega)).keep (fun j hj => hB1.block j hj) (fun j hj => by have := hj; omega))
          rw [hm] at CI c1 hbx d1 hW1
          have CN := Lib.hid (fun w => rightNumbers_calls x A' m cap' g2 hg2 w)
          have HCI := Lib.hid CI
          obtain ⟨b1, hb1⟩ : ∃ b1, (x.kind == 8) = b1 := ⟨_, rfl⟩
          obtain ⟨b2, hb2⟩ : ∃ b2, ((k : Int) == (n : Int) - 1) = b2 := ⟨_, rfl⟩
          obtain ⟨b3, hb3⟩ : ∃ b3, (b1 == b2) = b3 := ⟨_, rfl⟩
          have hb3' : b3 = true ↔ (x.kind = 8 ↔ (k : Int) = (l.length : Int) - 1) := by
            rw [HL.out, ← hb3, ← hb1, ← hb2, beq_iff_eq, Bool.eq_iff_iff, beq_iff_eq, beq_iff_eq]
          have hOK : okAt l k ↔ b3 = true ∧ g1 = true ∧ g2 = true := by
            rw [okP_at hx, okP, ← hb3', ← hg1, ← hg2]
          have HO := Lib.hid hOK
          have HBX := Lib.hid hbx
          have HB1 := Lib.hid hB1
          have HW1 := Lib.hid hW1
          have bad : ¬ okAt l k → Chk l k 13 := fun hn => chk_bad (by rw [HL.out]; exact hlt) (by rw [HL.out]; omega) HOK.out hn
          have HBAD := Lib.hid bad
          have HBW := Lib.hid (HB.out.trans (hB1.mono hs))
          clear hcells hi hx hm hxin hg1 hg2 hB1 hbx CI hb3' hOK bad hW1
          cases b3 with
          | false =>
            go_wp2_with fail
            rw [HW1.out]
            go_ret2
            exact ⟨_, _, rfl, HBAD.out (fun h => by have := (HO.out.1 h).1; cases this), HBW.out⟩
          | true =>
            go_wp2_with fail
            rw [HW1.out]
            refine HCI.out.mono ?_
            rintro e w2 ⟨rfl, B2⟩
            have hbx := (B2.block _ hs1).trans HBX.out
            obtain ⟨⟨d0, d1, d2, d3, d4, d5, d6⟩, -⟩ := box7 hbx
            have HBW2 := Lib.hid (HBW.out.trans (B2.mono HBW.out.size))
            clear hbx B2
            cases g1 with
            | false =>
              go_wp2_with fail
              go_ret2
              exact ⟨_, _, rfl, HBAD.out (fun h => by have := (HO.out.1 h).2.1; cases this), HBW2.out⟩
            | true =>
              go_wp2_with fail
              refine (CN.out _).mono ?_
              rintro e w3 ⟨rfl, B3⟩
              have HBW3 := Lib.hid (HBW2.out.trans (B3.mono HBW2.out.size))
              clear B3
              cases g2 with
              | false =>
                go_wp2_with fail
                go_ret2
                exact ⟨_, _, rfl, HBAD.out (fun h => by have := (HO.out.1 h).2.2; cases this), HBW3.out⟩
              | true =>
                go_wp2_with fail
                go_roundw
                case rel =>
                  refine ⟨k + 1, by go_num, by omega, fun j hj => ?_, HBW3.out⟩
                  by_cases hjk : j = k
                  · subst hjk
                    exact HO.out.2 (by simp)
                  · exact HOK.out j (by omega)
                case measure => simp [intOf]; omega
        · obtain rfl : k = n := by omega
          go_wp2_with fail
          go_ret2
          exact ⟨0, 0, rfl, chk_ok (by rw [HL.out]; exact hn1) (by rw [HL.out]; omega) (by rw [HL.out]; exact HOK.out), HB.out⟩

end Go.Proofs.Ytmfndimejnbgkaa.Graph
