/-
  Contracts of the model's looped, turned, passed, taken.
-/
import Derived.Test.YtmfndimejnbgkaaModelAt
import Derived.Test.YtmfndimejnbgkaaHeldTail
import Derived.Test.YtmfndimejnbgkaaGraphCheck
namespace Go.Proofs.Ytmfndimejnbgkaa.Model
open Go Go.RowKit Go.Proofs.Ytmfndimejnbgkaa.Law Go.Proofs.Ytmfndimejnbgkaa.Graph Go.Proofs.Ytmfndimejnbgkaa.Fold

theorem mpN_lt (x : Int) (n v : Nat) (hn : n < 4294967296) (hv : v < 4294967296) : mpN x n v < 4294967296 := by
  unfold mpN
  have h1 : v ^^^ n < 2 ^ 32 := Nat.xor_lt_two_pow (n := 32) (by omega) (by omega)
  have h2 : v / 2 ^ (n % 32) ≤ v := Nat.div_le_self _ _
  have h3 : (v + n) % 4294967296 < 4294967296 := Nat.mod_lt _ (by decide)
  have h4 : v * n % 4294967296 < 4294967296 := Nat.mod_lt _ (by decide)
  have h5 : (v * v + n) % 4294967296 < 4294967296 := Nat.mod_lt _ (by decide)
  repeat' split
  all_goals omega
theorem loopN_lt (o : Opr) (ho : o.num < 4294967296) : ∀ (n v : Nat), v < 4294967296 → loopN o n v < 4294967296
  | 0, v, h => h
  | n + 1, v, h => by
    unfold loopN
    split
    · exact mpN_lt _ _ _ ho h
    · exact loopN_lt o ho n _ (mpN_lt _ _ _ ho h)
theorem turnN_lt (o : Opr) (ho : o.num < 4294967296) (v : Nat) (h : v < 4294967296) : turnN o v < 4294967296 := by
  unfold turnN
  split
  · exact mpN_lt _ _ _ ho h
  · split
    · exact loopN_lt o ho _ _ h
    · exact h

set_option maxRecDepth 100000 in
set_option maxHeartbeats 2000000 in
theorem looped_calls (x : Opr) (u : Value) (R : Nat) (hR : x.rounds = (R : Int)) (hR16 : R ≤ 16) (hn : x.num < 4294967296) (hl : x.lim < 4294967296) (v : Nat) (hv : v < 4294967296) (w : World) :
    Calls Try.prog 137 #[opV x u, .int .u32 (v : Nat)] w (RetUB (loopN x R v) w) := by
  obtain ⟨W1, hW1⟩ : ∃ W1, w.alloc (.cells #[.int .i64 x.kind, u, .int .i64 x.arg, .int .u32 (x.num : Nat), .int .i64 x.rounds, .int .i64 x.test, .int .u32 (x.lim : Nat)] 27) = W1 := ⟨_, rfl⟩
  have hB1 : Below w.heap.size w W1 := by rw [← hW1]; exact alloc_low _ _
  have hbx := heap_alloc_new w (.cells #[.int .i64 x.kind, u, .int .i64 x.arg, .int .u32 (x.num : Nat), .int .i64 x.rounds, .int .i64 x.test, .int .u32 (x.lim : Nat)] 27)
  rw [hW1] at hbx
  obtain ⟨⟨d0, d1, d2, d3, d4, d5, d6⟩, -⟩ := box7 hbx
  rw [hR] at hW1 d4
  unfold opV
  rw [hR]
  have HW := Lib.hid hW1
  have HB := Lib.hid hB1
  clear hW1 hB1 hbx hR
  go_enter Try.func137, Try.ntmps137
  go_wp2_with fail
  rw [HW.out]
  go_loopw [1, 7] (fun c i wr => ∃ k y : Nat, i = .int .i64 k ∧ k ≤ R ∧ c = .int .u32 (y : Nat) ∧ y < 4294967296 ∧ Hid (loopN x (R - k) y = loopN x R v) ∧ wr = W1) (fun _ i _ => R - (intOf i).toNat)
  case atStart => exact ⟨0, v, rfl, Nat.zero_le _, rfl, hv, Lib.hid rfl, rfl⟩
  case round =>
    obtain ⟨k, y, rfl, hk, rfl, hy, HL, rfl⟩ := hrel
    by_cases hlt : k < R
    · have HK : Hid (k + 1 ≤ R) := Lib.hid hlt
      obtain ⟨m, hm⟩ : ∃ m, mpN x.arg x.num y = m := ⟨_, rfl⟩
      have hml : m < 4294967296 := by rw [← hm]; exact mpN_lt _ _ _ hn hy
      have CM := map_calls x.arg x.num y hn hy wr
      rw [hm] at CM
      have CT := test_calls x.test x.lim m hl hml wr
      obtain ⟨q, hq⟩ : ∃ q, tsN x.test x.lim m = q := ⟨_, rfl⟩
      rw [hq] at CT
      have HCM := Lib.hid CM
      have HCT := Lib.hid CT
      obtain ⟨j, hj⟩ : ∃ j, R - k = j + 1 := ⟨R - k - 1, by omega⟩
      have hstep : loopN x (R - k) y = if q = true then m else loopN x j m := by
        rw [hj, loopN, hm, hq]
      have hj' : R - (k + 1) = j := by omega
      have HS := Lib.hid (hstep.symm.trans HL.out)
      have HJ := Lib.hid hj'
      clear CM CT hm hq hj hj' hstep HL hy
      cases q with
      | true =>
        have HS1 : Hid (m = loopN x R v) := Lib.hid (by have h := HS.out; rw [if_pos rfl] at h; exact h)
        go_wp2_with fail
        refine HCM.out.mono ?_
        rintro e w2 ⟨rfl, rfl⟩
        go_wp2_with fail
        refine HCT.out.mono ?_
        rintro e w2 ⟨rfl, rfl⟩
        go_wp2_with fail
        go_ret
        exact ⟨by rw [← HS1.out]; rfl, HB.out⟩
      | false =>
        have HS1 : Hid (loopN x j m = loopN x R v) := Lib.hid (by have h := HS.out; rw [if_neg (by decide)] at h; exact h)
        go_wp2_with fail
        refine HCM.out.mono ?_
        rintro e w2 ⟨rfl, rfl⟩
        go_wp2_with fail
        refine HCT.out.mono ?_
        rintro e w2 ⟨rfl, rfl⟩
        go_wp2_with fail
        go_roundw
        case rel => exact ⟨k + 1, m, by go_num, HK.out, rfl, hml, Lib.hid (by rw [HJ.out]; exact HS1.out), trivial⟩
        case measure => have h := HK.out; simp [intOf]; omega
    · obtain rfl : k = R := by omega
      go_wp2_with fail
      go_ret
      exact ⟨by rw [← HL.out, Nat.sub_self]; rfl, HB.out⟩

set_option maxRecDepth 100000 in
set_option maxHeartbeats 2000000 in
theorem turned_calls (x : Opr) (u : Value) (hr : x.kind = 7 → 0 ≤ x.rounds ∧ x.rounds ≤ 16) (hn : x.num < 4294967296) (hl : x.lim < 4294967296) (v : Nat) (hv : v < 4294967296) (w : World) :
    Calls Try.prog 114 #[opV x u, .int .u32 (v : Nat)] w (RetUB (turnN x v) w) := by
  obtain ⟨W1, hW1⟩ : ∃ W1, w.alloc (.cells #[.int .i64 x.kind, u, .int .i64 x.arg, .int .u32 (x.num : Nat), .int .i64 x.rounds, .int .i64 x.test, .int .u32 (x.lim : Nat)] 27) = W1 := ⟨_, rfl⟩
  have hB1 : Below w.heap.size w W1 := by rw [← hW1]; exact alloc_low _ _
  have hbx := heap_alloc_new w (.cells #[.int .i64 x.kind, u, .int .i64 x.arg, .int .u32 (x.num : Nat), .int .i64 x.rounds, .int .i64 x.test, .int .u32 (x.lim : Nat)] 27)
  rw [hW1] at hbx
  obtain ⟨⟨d0, d1, d2, d3, d4, d5, d6⟩, -⟩ := box7 hbx
  have HW := Lib.hid hW1
  have HB := Lib.hid hB1
  have CM := Lib.hid (map_calls x.arg x.num v hn hv W1)
  have CL : x.kind = 7 → Hid (Calls Try.prog 137 #[opV x u, .int .u32 (v : Nat)] W1 (RetUB (loopN x x.rounds.toNat v) W1)) := fun h7 => Lib.hid (looped_calls x u x.rounds.toNat (by rw [Int.toNat_of_nonneg (hr h7).1]) (by have := hr h7; omega) hn hl v hv W1)
  have hq : turnN x v = if x.kind = 2 then mpN x.arg x.num v else if x.kind = 7 then loopN x x.rounds.toNat v else v := rfl
  have HQ := Lib.hid hq
  clear hW1 hB1 hbx hq hr
  by_cases h2 : x.kind = 2
  · have g2 : (x.kind == 2) = true := by rw [beq_iff_eq]; exact h2
    have HQ2 : Hid (turnN x v = mpN x.arg x.num v) := Lib.hid (by rw [HQ.out, if_pos h2])
    clear CL h2 HQ
    go_enter Try.func114, Try.ntmps114
    go_wp2_with fail
    rw [HW.out]
    refine CM.out.mono ?_
    rintro e w2 ⟨rfl, rfl⟩
    go_wp2_with fail
    go_ret
    exact ⟨by rw [HQ2.out]; rfl, HB.out⟩
  · have g2 : (x.kind == 2) = false := by rw [beq_eq_false_iff_ne]; exact h2
    by_cases h7 : x.kind = 7
    · have g7 : (x.kind == 7) = true := by rw [beq_iff_eq]; exact h7
      have HQ2 : Hid (turnN x v = loopN x x.rounds.toNat v) := Lib.hid (by rw [HQ.out, if_neg h2, if_pos h7])
      have CL7 := CL h7
      clear CL h7 h2 HQ CM
      go_enter Try.func114, Try.ntmps114
      go_wp2_with fail
      rw [HW.out]
      refine CL7.out.mono ?_
      rintro e w2 ⟨rfl, B2⟩
      have HB2 := Lib.hid (HB.out.trans (B2.mono HB.out.size))
      clear B2
      go_wp2_with fail
      go_ret
      exact ⟨by rw [HQ2.out]; rfl, HB2.out⟩
    · have g7 : (x.kind == 7) = false := by rw [beq_eq_false_iff_ne]; exact h7
      have HQ2 : Hid (turnN x v = v) := Lib.hid (by rw [HQ.out, if_neg h2, if_neg h7])
      clear CL h7 h2 HQ CM
      go_enter Try.func114, Try.ntmps114
      go_wp2_with fail
      rw [HW.out]
      go_ret
      exact ⟨by rw [HQ2.out]; rfl, HB.out⟩

end Go.Proofs.Ytmfndimejnbgkaa.Model
