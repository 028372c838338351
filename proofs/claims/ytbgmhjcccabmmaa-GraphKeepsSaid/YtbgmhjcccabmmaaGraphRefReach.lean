/-
  Contract of the document's Reach, at right graphs.
-/
import Derived.Test.YtbgmhjcccabmmaaGraphReachMath
import Derived.Test.YtbgmhjcccabmmaaGraphRefCheck
namespace Go.Proofs.Ytbgmhjcccabmmaa.Graph
open Go Go.RowKit Go.Sort Go.Proofs.Ytbgmhjcccabmmaa.Law

/-- No input ahead of the k-th is led to. -/
def noneTo (l : List Opr) (a : Nat) (ins : List Int) (k : Nat) : Prop := ∀ (j c : Nat), j < k → ins[j]? = some (c : Int) → rB l a c = false

set_option maxRecDepth 100000 in
set_option maxHeartbeats 8000000 in
theorem refReach_calls (l : List Opr) (hg : goodG l) (v : Value) (a : Nat) : ∀ (m b : Nat), b ≤ m → b < l.length → ∀ (w : World), OldO w.heap.size w v l → Calls Try.prog 14 #[.agg #[v], .int .i64 (a : Nat), .int .i64 (b : Nat)] w (RetT (rB l a b) w) := by
  intro m
  induction m with
  | zero =>
    intro b hbm hbl w hI
    obtain rfl : b = 0 := by omega
    obtain ⟨A, cap, rfl, _⟩ := hI.form
    by_cases hab : a = 0
    · subst hab
      rw [rB_self]
      clear hI hg
      go_enter Try.func14, Try.ntmps14
      go_wp2_with fail
      go_ret
      exact ⟨rfl, alloc_low _ _⟩
    · rw [rB_back hg (show 0 < a by omega)]
      have hb : ((a : Int) == 0) = false := by rw [beq_eq_false_iff_ne]; omega
      have hlt : (0 : Int) < (a : Int) := by omega
      clear hI hg
      go_enter Try.func14, Try.ntmps14
      go_wp2_with fail
      go_ret
      exact ⟨rfl, alloc_low _ _⟩
  | succ m ih =>
    intro b hbm hbl w hI
    obtain ⟨A, cap, rfl, hcap⟩ := hI.form
    by_cases hab : a = b
    · subst hab
      rw [rB_self]
      have hb : ((a : Int) == (a : Int)) = true := by rw [beq_iff_eq]
      clear hI hg ih
      go_enter Try.func14, Try.ntmps14
      go_wp2_with fail
      go_ret
      exact ⟨rfl, alloc_low _ _⟩
    · have hb : ((a : Int) == (b : Int)) = false := by rw [beq_eq_false_iff_ne]; omega
      by_cases hba : b < a
      · rw [rB_back hg hba]
        have hlt : (b : Int) < (a : Int) := by omega
        clear hI hg ih
        go_enter Try.func14, Try.ntmps14
        go_wp2_with fail
        go_ret
        exact ⟨rfl, alloc_low _ _⟩
      · have hd : decide ((b : Int) < (a : Int)) = false := decide_eq_false (by omega)
        obtain ⟨n, hn⟩ : ∃ n, l.length = n := ⟨_, rfl⟩
        have hn16 : n ≤ 16 := by rw [← hn]; exact hg.2.1
        obtain ⟨x, hx⟩ : ∃ x, l[b]? = some x := ⟨_, List.getElem?_eq_getElem hbl⟩
        obtain ⟨hx2, hxi⟩ := hg.ins hx
        rw [hn] at hI hbl hcap ih ⊢
        obtain ⟨ob, off, rfl, hob, hcells⟩ := hI.at (by omega)
        obtain ⟨u, hc7, hi⟩ := hcells b x hx
        obtain ⟨A', cap', rfl, hcap'⟩ := hi.form
        obtain ⟨mi, hmi⟩ : ∃ mi, x.ins.length = mi := ⟨_, rfl⟩
        rw [hmi] at hc7 hi hx2 hcap'
        obtain ⟨w0, hw0⟩ : ∃ w0, w.alloc (.cells #[.slice (some ⟨ob, off, none⟩) n cap] 24) = w0 := ⟨_, rfl⟩
        have hB0 : Below w.heap.size w w0 := by rw [← hw0]; exact alloc_low _ _
        have hb0 : w0.heap[w.heap.size]? = some (.cells #[.slice (some ⟨ob, off, none⟩) n cap] 24) := by rw [← hw0]; exact heap_alloc_new w _
        have hs0 : w0.heap.size = w.heap.size + 1 := by rw [← hw0]; simp
        have hbI : (b : Int) < (n : Int) := by omega
        have HC7 := Lib.hid hc7
        have HI2 := Lib.hid hi
        have HI := Lib.hid hI
        have HIH := Lib.hid ih
        have HG := Lib.hid hg
        have HX := Lib.hid hx
        have HXI := Lib.hid hxi
        have HM := Lib.hid hmi
        have HW := Lib.hid hw0
        have HB0 := Lib.hid hB0
        have HBX := Lib.hid hb0
        have HS0 := Lib.hid hs0
        have HN := Lib.hid hn
        clear hc7 hi hI ih hg hx hxi hmi hw0 hB0 hb0 hs0 hcells hn
        go_enter Try.func14, Try.ntmps14
        go_wp2_with fail
        rw [HW.out]
        go_loopw [7] (fun i wr => ∃ k : Nat, i = .int .i64 k ∧ k ≤ mi ∧ Hid (noneTo l a x.ins k ∧ Below (w.heap.size + 1) w0 wr)) (fun i _ => mi - (intOf i).toNat)
        case atStart => exact ⟨0, rfl, Nat.zero_le _, Lib.hid ⟨fun _ _ h => absurd h (Nat.not_lt_zero _), Below.refl _ _⟩⟩
        case round =>
          obtain ⟨k, rfl, hk, HR⟩ := hrel
          have hs : w.heap.size + 1 ≤ wr.heap.size := by have := HR.out.2.size; have := HS0.out; omega
          obtain ⟨r0, _⟩ := box1 ((HR.out.2.block w.heap.size (by omega)).trans HBX.out)
          have hBw : Below w.heap.size w wr := HB0.out.trans (HR.out.2.mono (by omega))
          obtain ⟨c0, c1, c2, c3, c4, c5, c6⟩ := HC7.out.keep (hBw.block ob hob)
          by_cases hkm : k < mi
          · obtain ⟨y, hy⟩ : ∃ y, x.ins[k]? = some y := ⟨_, List.getElem?_eq_getElem (by rw [HM.out]; exact hkm)⟩
            obtain ⟨hy0, hyb⟩ := HXI.out y (List.mem_of_getElem? hy)
            obtain ⟨c, rfl⟩ := Int.eq_ofNat_of_zero_le hy0
            obtain ⟨ib, io, rfl, hib, hci⟩ := (IntsAt.low hBw HI2.out).at (by omega)
            have e0 := hci k _ hy
            have hkI : (k : Int) < (mi : Int) := by omega
            have CI := fun d os => Calls.regrown_of (d := d) (os := os) (HIH.out c (by omega) (by omega) (grow (redrawn wr d) os) (((OpsAt.low hBw HI.out).keep (T := fun j => j < w.heap.size) (fun j hj => (below_regrown wr d os).block j (by omega)) (fun j hj => hj)).mono (fun j hj => by have := (below_regrown wr d os).size; omega)))
            obtain ⟨r, hr⟩ : ∃ r, rB l a c = r := ⟨_, rfl⟩
            rw [hr] at CI
            have HCI := Lib.hid CI
            have HRR := Lib.hid hr
            have HY := Lib.hid hy
            have HBW := Lib.hid hBw
            have q0 := fun d os => cell_regrown r0 d os
            have q1 := fun d os => cell_regrown c1 d os
            have q2 := fun d os => cell_regrown e0 d os
            clear hci CI hr hy hBw
            go_wp2_with fail
            refine wp_region_quiet_below (by kernel_rfl) (by kernel_rfl) ?_
            repeat (go_big_quiet_step (exact HCI.out _ _))
            refine wpQuiet_nil ?_
            intro w' hw'
            obtain ⟨⟨d, os⟩, rfl⟩ := hw'
            have hB3 := below_regrown wr d os
            have HR3 := Lib.hid (HR.out.2.trans (hB3.mono (by omega)))
            have HL3 := Lib.hid (HBW.out.trans (hB3.mono (by have := HBW.out.size; omega)))
            clear HCI q0 q1 q2 hB3 r0 c0 c1 c2 c3 c4 c5 c6 e0
            generalize grow (redrawn wr d) os = w3 at HR3 HL3 ⊢
            cases r with
            | true =>
              have hT : rB l a b = true := bP_true (Rch.tail.2 (.inr ⟨x, k, c, HX.out, HY.out, bP_iff.1 HRR.out⟩))
              have HT := Lib.hid hT
              clear hT
              go_wp2_with fail
              go_ret
              exact ⟨by rw [HT.out]; rfl, HL3.out⟩
            | false =>
              have HNX : Hid (noneTo l a x.ins (k + 1) ∧ Below (w.heap.size + 1) w0 w3) := Lib.hid ⟨fun j c' hj hc' => by
                by_cases hjk : j = k
                · subst hjk
                  have e := Option.some.inj (hc'.symm.trans HY.out)
                  have e2 : c' = c := by omega
                  rw [e2]
                  exact HRR.out
                · exact HR.out.1 j c' (by omega) hc', HR3.out⟩
              go_wp2_with fail
              go_roundw
              case rel => exact ⟨k + 1, by go_num, by omega, HNX⟩
              case measure => simp [intOf]; omega
          · obtain rfl : k = mi := by omega
            have hF : rB l a b = false := bP_false fun h => by
              rcases Rch.tail.1 h with h | ⟨x', j, c, hx', hj, h⟩
              · exact hab h
              · obtain rfl := Option.some.inj (hx'.symm.trans HX.out)
                have hjl : j < x'.ins.length := (List.getElem?_eq_some_iff.1 hj).1
                rw [HM.out] at hjl
                have := HR.out.1 j c hjl hj
                rw [rB, bP_true h] at this
                cases this
            have HF := Lib.hid hF
            have HBW := Lib.hid hBw
            clear hF hBw
            go_wp2_with fail
            go_ret
            exact ⟨by rw [HF.out]; rfl, HBW.out⟩

end Go.Proofs.Ytbgmhjcccabmmaa.Graph
