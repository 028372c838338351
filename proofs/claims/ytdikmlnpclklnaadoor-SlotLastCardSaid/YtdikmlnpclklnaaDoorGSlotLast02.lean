/-
  Put together out of texts of one chain: what they hold stands ahead of each.
-/
import Derived.Test.YtdikmlnpclklnaaDoorGSlotLast01
import Derived.Lib.Zigzag
import Derived.Test.YtdikmlnpclklnaaDoorCells
import Derived.Deep.RegionLaw
/-
  Items out of bytes by a row of open parts: plain definitions and facts.
-/
namespace Go.Proofs.YtdikmlnpclklnaaDoor.Wire
open Go Go.Proofs.YtdikmlnpclklnaaDoor.Law

theorem rdTop_fuel : ∀ (f f' c : Nat) (bs : List Nat) (acc : List Item), c ≤ 4096 → 4097 ≤ f + c → 4097 ≤ f' + c → rdTop f c bs acc = rdTop f' c bs acc := by
  intro f
  induction f with
  | zero => intro f' c bs acc hc h h'; omega
  | succ f ih =>
    intro f' c bs acc hc h h'
    obtain ⟨f', rfl⟩ : ∃ g, f' = g + 1 := ⟨f' - 1, by omega⟩
    rw [rdTop, rdTop]
    split
    · rfl
    · match hq : rdI 8 c bs with
      | .error e => rfl
      | .ok (x, c', bs') =>
        have := rdI_count 8 c bs x c' bs' hq
        exact ih f' c' bs' _ this.2.1 (by omega) (by omega)

/-- What comes of open parts: the innermost one's items and how many are to come, and those ahead of it. -/
def unw : List (List Item × Int) → List Item → Int → Nat → List Nat → Except Nat (List Item)
  | [], acc, _, c, bs => rdTop (4097 - c) c bs acc
  | (a, t) :: ps, acc, n, c, bs =>
    match rdL (rdI (8 - (ps.length + 1))) n.toNat c bs acc with
    | .error e => .error e
    | .ok (l, c', bs') => unw ps (a ++ [.mk 2 0 noT l]) (t - 1) c' bs'

theorem unw_done (acc : List Item) (n : Int) (c : Nat) (hc : c ≤ 4096) : unw [] acc n c [] = .ok acc := by
  rw [unw]
  obtain ⟨f, hf⟩ : ∃ f, 4097 - c = f + 1 := ⟨4096 - c, by omega⟩
  rw [hf, rdTop, if_pos rfl]

theorem unw_close (a : List Item) (t : Int) (ps : List (List Item × Int)) (acc : List Item) (c : Nat) (bs : List Nat) : unw ((a, t) :: ps) acc 0 c bs = unw ps (a ++ [.mk 2 0 noT acc]) (t - 1) c bs := by
  rw [unw]
  rfl

/-- Something is to come yet. -/
def More (ps : List (List Item × Int)) (n : Int) (bs : List Nat) : Prop := (ps = [] → bs ≠ []) ∧ (ps ≠ [] → 0 < n)

theorem unw_step (ps : List (List Item × Int)) (acc : List Item) (n : Int) (c : Nat) (bs : List Nat) (hm : More ps n bs) (hc : c ≤ 4096) (hd : ps.length ≤ 8) : unw ps acc n c bs =
    match rdI (8 - ps.length) c bs with
    | .error e => .error e
    | .ok (x, c', bs') => unw ps (acc ++ [x]) (n - 1) c' bs' := by
  cases ps with
  | nil =>
    obtain ⟨f, hf⟩ : ∃ f, 4097 - c = f + 1 := ⟨4096 - c, by omega⟩
    rw [unw, hf, rdTop, if_neg (hm.1 rfl)]
    simp only [List.length_nil, Nat.sub_zero]
    match hq : rdI 8 c bs with
    | .error e => rfl
    | .ok (x, c', bs') =>
      have := rdI_count 8 c bs x c' bs' hq
      simp only [unw]
      exact rdTop_fuel _ _ _ _ _ this.2.1 (by omega) (by omega)
  | cons p ps =>
    obtain ⟨a, t⟩ := p
    have h0 := hm.2 (by simp)
    obtain ⟨m, hm'⟩ : ∃ m : Nat, n.toNat = m + 1 := ⟨n.toNat - 1, by omega⟩
    have hm1 : (n - 1).toNat = m := by omega
    simp only [unw, hm', rdL, List.length_cons, hm1]
    match hq : rdI (8 - (ps.length + 1)) c bs with
    | .error e => rfl
    | .ok (x, c', bs') => rfl

theorem unw_long (ps : List (List Item × Int)) (acc : List Item) (n : Int) (c : Nat) (bs : List Nat) (hm : More ps n bs) (hc : c ≤ 4096) (hd : ps.length ≤ 8) (h : c = 4096 ∨ ps.length = 8) : unw ps acc n c bs = .error 2 := by
  rw [unw_step ps acc n c bs hm hc hd]
  rcases h with rfl | h
  · obtain ⟨b, hb⟩ | hb : (∃ b, 8 - ps.length = b + 1) ∨ 8 - ps.length = 0 := by
      rcases Nat.eq_zero_or_pos (8 - ps.length) with h | h
      · exact .inr h
      · exact .inl ⟨8 - ps.length - 1, by omega⟩
    · rw [hb, rdI, if_pos (by omega)]
    · rw [hb, rdI]
  · rw [h, Nat.sub_self, rdI]

theorem unw_head (ps : List (List Item × Int)) (acc : List Item) (n : Int) (c : Nat) (bs : List Nat) (hm : More ps n bs) (hc : c < 4096) (hd : ps.length < 8) {e : Nat} (h : rdHead bs = .error e) : unw ps acc n c bs = .error e := by
  rw [unw_step ps acc n c bs hm (by omega) (by omega)]
  obtain ⟨b, hb⟩ : ∃ b, 8 - ps.length = b + 1 := ⟨8 - ps.length - 1, by omega⟩
  rw [hb, rdI, if_neg (by omega), h]

theorem unw_int (ps : List (List Item × Int)) (acc : List Item) (n : Int) (c : Nat) (bs : List Nat) (hm : More ps n bs) (hc : c < 4096) (hd : ps.length < 8) {m : Nat} {r : List Nat} (h : rdHead bs = .ok (0, m, r)) :
    unw ps acc n c bs = unw ps (acc ++ [.mk 0 (unzig m) noT []]) (n - 1) (c + 1) r := by
  rw [unw_step ps acc n c bs hm (by omega) (by omega)]
  obtain ⟨b, hb⟩ : ∃ b, 8 - ps.length = b + 1 := ⟨8 - ps.length - 1, by omega⟩
  rw [hb, rdI, if_neg (by omega), h]
  rfl

theorem unw_end (ps : List (List Item × Int)) (acc : List Item) (n : Int) (c : Nat) (bs : List Nat) (hm : More ps n bs) (hc : c < 4096) (hd : ps.length < 8) {m : Nat} {r : List Nat} (h : rdHead bs = .ok (1, m, r)) (hr : r.length < m) :
    unw ps acc n c bs = .error 5 := by
  rw [unw_step ps acc n c bs hm (by omega) (by omega)]
  obtain ⟨b, hb⟩ : ∃ b, 8 - ps.length = b + 1 := ⟨8 - ps.length - 1, by omega⟩
  rw [hb, rdI, if_neg (by omega), h]
  simp [hr]

theorem unw_text (ps : List (List Item × Int)) (acc : List Item) (n : Int) (c : Nat) (bs : List Nat) (hm : More ps n bs) (hc : c < 4096) (hd : ps.length < 8) {m : Nat} {r : List Nat} (h : rdHead bs = .ok (1, m, r)) (hr : ¬ r.length < m) :
    unw ps acc n c bs = unw ps (acc ++ [.mk 1 0 (str (r.take m)) []]) (n - 1) (c + 1) (r.drop m) := by
  rw [unw_step ps acc n c bs hm (by omega) (by omega)]
  obtain ⟨b, hb⟩ : ∃ b, 8 - ps.length = b + 1 := ⟨8 - ps.length - 1, by omega⟩
  rw [hb, rdI, if_neg (by omega), h]
  simp [hr]

theorem unw_list (ps : List (List Item × Int)) (acc : List Item) (n : Int) (c : Nat) (bs : List Nat) (hm : More ps n bs) (hc : c < 4096) (hd : ps.length < 8) {m : Nat} {r : List Nat} (h : rdHead bs = .ok (2, m, r)) :
    unw ps acc n c bs = unw ((acc, n) :: ps) [] m (c + 1) r := by
  rw [unw_step ps acc n c bs hm (by omega) (by omega), unw]
  obtain ⟨b, hb⟩ : ∃ b, 8 - ps.length = b + 1 := ⟨8 - ps.length - 1, by omega⟩
  have hb2 : 8 - (ps.length + 1) = b := by omega
  rw [hb, hb2, rdI, if_neg (by omega), h]
  simp only [Int.toNat_natCast, show ¬ ((2 : Nat) = 0) by omega, show ¬ ((2 : Nat) = 1) by omega, if_false]
  match hq : rdL (rdI b) m (c + 1) r [] with
  | .error e => rfl
  | .ok (l, c', bs') => rfl

/-- What a head is. -/
theorem head_is {bs : List Nat} {k m : Nat} {r : List Nat} (h : rdHead bs = .ok (k, m, r)) : k ≤ 2 ∧ (k ≠ 0 → m ≤ 9223372036854775807) ∧ m < 18446744073709551616 ∧ r.length < bs.length := by
  match bs, h with
  | [], h => simp [rdHead] at h
  | q :: bs, h =>
    rw [rdHead] at h
    split at h
    · cases h
    · match hz : rdNum 0 0 bs with
      | .error e => rw [hz] at h; cases h
      | .ok (m', r2) =>
        rw [hz] at h
        simp only at h
        split at h
        · cases h
        · rename_i h1 h2
          simp only [Except.ok.injEq, Prod.mk.injEq] at h
          obtain ⟨rfl, rfl, rfl⟩ := h
          have h3 := (rdNum_length bs 0 0 _ _ hz).1
          have h4 := rdNum_lt bs 0 0 _ _ (by omega) (by decide) hz
          refine ⟨by omega, fun hq => ?_, h4, by simp; omega⟩
          rcases Nat.lt_or_ge 9223372036854775807 m' with h5 | h5
          · exact absurd ⟨hq, h5⟩ h2
          · exact h5

end Go.Proofs.YtdikmlnpclklnaaDoor.Wire

/-
  The program's own reading of a head and of a text.
-/
namespace Go.Proofs.YtdikmlnpclklnaaDoor.Wire
open Go Go.RowKit Go.Proofs.YtdikmlnpclklnaaDoor.Law

set_option maxRecDepth 100000 in
set_option maxHeartbeats 2000000 in
theorem signed_calls (u : Nat) (hu : u < 18446744073709551616) (w : World) :
    Calls Tryd.prog 85 #[.int .u64 (u : Nat)] w fun e W => e = .returned (.int .i64 (unzig u)) ∧ w = W := by
  have h1 := Lib.u64_and1 (u : Int) (by omega) (by omega)
  by_cases hodd : u % 2 = 1
  · have hv : wrap64 (bits .xor .u64 IntKind.u64.max ((u : Int) / 2)) = unzig u := by
      unfold unzig
      rw [if_pos hodd, show (u : Int) / 2 = ((u / 2 : Nat) : Int) by omega, show IntKind.u64.max = ((18446744073709551615 : Nat) : Int) from rfl, u64_xor_nat _ _ (by omega) (by omega)]
      have := Lib.xor_ones64 (u / 2) (by omega)
      rw [show 18446744073709551615 = 2 ^ 64 - 1 by decide, this]
      unfold wrap64
      omega
    have ho : (u : Int) % 2 = 1 := by omega
    have HV := Lib.hid hv
    clear hv
    go_enter Tryd.func85, Tryd.ntmps85
    go_wp2
    go_ret
    exact ⟨ret_int HV.out, rfl⟩
  · have hv : unzig u = ((u / 2 : Nat) : Int) := by unfold unzig; rw [if_neg hodd]
    have ho : (u : Int) % 2 = 0 := by omega
    rw [hv]
    clear hv
    go_enter Tryd.func85, Tryd.ntmps85
    go_wp2
    go_ret
    exact ⟨ret_int (by omega), rfl⟩

/-- What head answers. -/
def HeadRead (w : World) (rb n₀ : Nat) : Except Nat (Nat × Nat × List Nat) → Ending → World → Prop
  | .ok (k, m, r), e, W => e = .returned (.tuple #[.int .i64 (k : Nat), .int .u64 (m : Nat), .int .i64 0]) ∧ ∃ B, Rdr W rb B ∧ Bytes n₀ W B r ∧ w.grownBy W (some rb) ∧ w.heap.size = W.heap.size
  | .error k, e, W => e = .returned (.tuple #[.int .i64 0, .int .u64 0, .int .i64 (k : Nat)]) ∧ k ≠ 0 ∧ w.grownBy W (some rb)

theorem byte_kind (x : Nat) : ((x : Nat) : Int) = 0 ∨ ((x : Nat) : Int) = 1 ∨ ((x : Nat) : Int) = 2 ∨ 2 < x := by omega

set_option maxRecDepth 100000 in
set_option maxHeartbeats 4000000 in
theorem head_calls (rb n₀ : Nat) (B : Value) (bs : List Nat) (hlen0 : bs.length ≤ 65536) (w : World) (hR : Rdr w rb B) (hI : Bytes n₀ w B bs) (hn : n₀ ≤ rb) :
    Calls Tryd.prog 84 #[.pointer (some ⟨rb, 0, none⟩)] w (HeadRead w rb n₀ (rdHead bs)) := by
  obtain ⟨A, cap, rfl⟩ := hI.form
  obtain ⟨len, hlen⟩ : ∃ len, bs.length = len := ⟨_, rfl⟩
  obtain ⟨R, hRR⟩ : ∃ R, rdHead bs = R := ⟨_, rfl⟩
  rw [hRR]
  rw [hlen] at hI hlen0 hR
  obtain ⟨r0, z0⟩ := hR.cells
  have HR := Lib.hid hR
  have HI := Lib.hid hI
  have HL := Lib.hid hlen
  clear hR hI hlen
  match bs, hRR with
  | [], hRR =>
    obtain rfl : len = 0 := by simpa using HL.out.symm
    have HRR := Lib.hid hRR
    clear hRR
    go_enter Tryd.func84, Tryd.ntmps84
    go_wp2_with fail
    go_ret3
    obtain rfl := HRR.out
    exact ⟨rfl, by decide, grown_refl _ _⟩
  | x :: bs, hRR =>
    have hl0 : ¬ (len : Int) = 0 := by have := HL.out; simp at this; omega
    have hlp : 0 < len := by have := HL.out; simp at this; omega
    obtain ⟨b, off, rfl, hb, hc⟩ := HI.out.cells hlp
    have hc0 := hc 0 hlp
    have hx256 : x < 256 := HI.out.lt x (by simp)
    rw [Nat.add_zero, show (x :: bs).getD 0 0 = x from rfl] at hc0
    rw [rdHead] at hRR
    clear hc
    have hne : ¬ b = rb := by omega
    have hlpI : 0 < (len : Int) := by omega
    by_cases hbig : 2 < x
    · rw [if_pos hbig] at hRR
      have HRR := Lib.hid hRR
      have k0 : ((x : Int) != 0) = true := by rw [bne_iff_ne]; omega
      have k1 : ((x : Int) != 1) = true := by rw [bne_iff_ne]; omega
      have k2 : ((x : Int) != 2) = true := by rw [bne_iff_ne]; omega
      clear hRR
      go_enter Tryd.func84, Tryd.ntmps84
      go_wp2_with fail
      go_ret3
      obtain rfl := HRR.out
      exact ⟨rfl, by decide, grown_refl _ _⟩
    · rw [if_neg hbig] at hRR
      obtain ⟨B1, hrun, hB1⟩ := run_behind HI.out .i64 (show 1 ≤ len by omega)
      have hrun1 : ∀ w', (Instr.sliceAt 38 (.slice (some ⟨b, off, none⟩) len cap) (some (.int .i64 1)) none none).run Tryd.prog w' = .ok B1 w' := fun w' => by simpa using hrun w'
      replace hB1 : Bytes n₀ w B1 bs := hB1
      have cN := num_calls rb n₀ B1 bs (by have := HL.out; simp at this; omega) (w.setCell ⟨rb, 0, none⟩ B1) (HR.out.set B1) (Bytes.below ((Below.refl n₀ w).setCell (p := ⟨rb, 0, none⟩) hn _) hB1)
      obtain ⟨RN, hRN⟩ : ∃ RN, rdNum 0 0 bs = RN := ⟨_, rfl⟩
      rw [hRN] at hRR cN
      obtain ⟨A1, cap1, rfl⟩ := hB1.form
      have HRUN := Lib.hid hrun1
      have HRR := Lib.hid hRR
      have HRN := Lib.hid hRN
      have HB1 := Lib.hid hB1
      have CN := Lib.hid cN
      have hG1 := Lib.hid (grown_set (i := 0) (grown_refl w (some rb)) (.slice A1 bs.length cap1))
      have hrd := Lib.hid (HR.out.set (.slice A1 bs.length cap1))
      clear hrun hrun1 hRR hRN hB1 cN
      have hcase : ((((x : Int) != 0) = false) ∧ x = 0) ∨ (((x : Int) != 0) = true ∧ (((x : Int) != 1) = false) ∧ x ≠ 0) ∨ (((x : Int) != 0) = true ∧ ((x : Int) != 1) = true ∧ (((x : Int) != 2) = false) ∧ x ≠ 0) := by
        rcases (show x = 0 ∨ x = 1 ∨ x = 2 by omega) with rfl | rfl | rfl <;> simp
      rcases hcase with ⟨k0, hx0⟩ | ⟨k0, k1, hx0⟩ | ⟨k0, k1, k2, hx0⟩
      all_goals
        have HX0 := Lib.hid hx0
        clear hx0
        go_enter Tryd.func84, Tryd.ntmps84
        go_wp2_with (refine wpList_slice_ran (o := ⟨some 36, _, _, _, _, _⟩) rfl _ _ _ _ _ rfl rfl rfl rfl rfl (HRUN.out _) ?_)
        refine CN.out.mono ?_
        clear CN
        rintro e W hN
        cases RN with
        | error k =>
          obtain ⟨rfl, rfl⟩ := hN
          have hkne : ¬ (k : Int) = 0 := by have := rdNum_err _ _ _ _ HRN.out; omega
          go_wp2_with fail
          go_ret3
          obtain rfl := HRR.out
          exact ⟨rfl, by omega, hG1.out⟩
        | ok q =>
          obtain ⟨m, r⟩ := q
          obtain ⟨rfl, B2, rfl, hB2⟩ := hN
          obtain ⟨A2, cap2, rfl⟩ := hB2.form
          have hfin : ∃ B, Rdr ((w.setCell ⟨rb, 0, none⟩ (.slice A1 bs.length cap1)).setCell ⟨rb, 0, none⟩ (.slice A2 r.length cap2)) rb B ∧ Bytes n₀ ((w.setCell ⟨rb, 0, none⟩ (.slice A1 bs.length cap1)).setCell ⟨rb, 0, none⟩ (.slice A2 r.length cap2)) B r ∧
              w.grownBy ((w.setCell ⟨rb, 0, none⟩ (.slice A1 bs.length cap1)).setCell ⟨rb, 0, none⟩ (.slice A2 r.length cap2)) (some rb) ∧ w.heap.size = ((w.setCell ⟨rb, 0, none⟩ (.slice A1 bs.length cap1)).setCell ⟨rb, 0, none⟩ (.slice A2 r.length cap2)).heap.size :=
            ⟨_, hrd.out.set _, Bytes.below ((Below.refl n₀ _).setCell (p := ⟨rb, 0, none⟩) hn _) hB2, grown_set (i := 0) hG1.out _, by simp [World.setCell]⟩
          have HFIN := Lib.hid hfin
          clear hB2 hfin
          by_cases hbn : 9223372036854775807 < m
          · have hbI : decide ((9223372036854775807 : Int) < (m : Int)) = true := by simp only [decide_eq_true_eq]; omega
            have HBN := Lib.hid hbn
            clear hbn
            go_wp2_with fail
            go_ret3
            first
            | (have hRR : R = .error 3 := by rw [← HRR.out]; simp [HX0.out, HBN.out]
               rw [hRR]
               obtain ⟨B, _, _, h3, _⟩ := HFIN.out
               exact ⟨rfl, by decide, h3⟩)
            | (have hRR : R = .ok (x, m, r) := by rw [← HRR.out]; simp [HX0.out]
               rw [hRR]
               exact ⟨rfl, HFIN.out⟩)
          · have hbI : decide ((9223372036854775807 : Int) < (m : Int)) = false := by simp only [decide_eq_false_iff_not]; omega
            have HBN := Lib.hid hbn
            clear hbn
            go_wp2_with fail
            go_ret3
            have hRR : R = .ok (x, m, r) := by rw [← HRR.out]; simp [HBN.out]
            rw [hRR]
            exact ⟨rfl, HFIN.out⟩

/-- What text answers. -/
def TextRead (w : World) (rb n₀ m : Nat) (bs : List Nat) (e : Ending) (W : World) : Prop :=
  e = .returned (.tuple #[.string (str (bs.take m)), .int .i64 0]) ∧ w.grownBy W (some rb) ∧ w.heap.size = W.heap.size ∧ ∃ B', Rdr W rb B' ∧ Bytes n₀ W B' (bs.drop m)

set_option maxRecDepth 100000 in
set_option maxHeartbeats 4000000 in
theorem text_short (rb n₀ m : Nat) (B : Value) (bs : List Nat) (hlen0 : bs.length ≤ 65536) (w : World) (hR : Rdr w rb B) (hI : Bytes n₀ w B bs) (hs : bs.length < m) :
    Calls Tryd.prog 86 #[.pointer (some ⟨rb, 0, none⟩), .int .u64 (m : Nat)] w fun e W => e = .returned (.tuple #[.string ⟨#[]⟩, .int .i64 5]) ∧ w = W := by
  obtain ⟨A, cap, rfl⟩ := hI.form
  obtain ⟨len, hlen⟩ : ∃ len, bs.length = len := ⟨_, rfl⟩
  rw [hlen] at hR hlen0 hs
  obtain ⟨r0, z0⟩ := hR.cells
  have hsI : (len : Int) < (m : Int) := by omega
  clear hI hR hlen hs
  go_enter Tryd.func86, Tryd.ntmps86
  go_wp2
  go_ret2
  exact ⟨rfl, rfl⟩

set_option maxRecDepth 100000 in
set_option maxHeartbeats 4000000 in
theorem text_long (rb n₀ m : Nat) (B : Value) (bs : List Nat) (hlen0 : bs.length ≤ 65536) (w : World) (hR : Rdr w rb B) (hI : Bytes n₀ w B bs) (hn : n₀ ≤ rb) (hs : m ≤ bs.length) :
    Calls Tryd.prog 86 #[.pointer (some ⟨rb, 0, none⟩), .int .u64 (m : Nat)] w (TextRead w rb n₀ m bs) := by
  obtain ⟨A, cap, rfl⟩ := hI.form
  obtain ⟨len, hlen⟩ : ∃ len, bs.length = len := ⟨_, rfl⟩
  rw [hlen] at hR hlen0 hs hI
  obtain ⟨r0, z0⟩ := hR.cells
  obtain ⟨B1, hrun, hB1⟩ := run_behind hI .u64 hs
  obtain ⟨A1, cap1, rfl⟩ := hB1.form
  obtain ⟨l1, hl1⟩ : ∃ l1, (bs.drop m).length = l1 := ⟨_, rfl⟩
  rw [hl1] at hrun hB1
  obtain ⟨B2, hrun2, hB2⟩ := run_ahead hI .u64 hs
  have c1 := fun w' (h : Bytes n₀ w' B2 (bs.take m)) => run_string_bytes (P := Tryd.prog) w' Tryd.underlying38 Tryd.underlying5 Tryd.underlying9 h
  have c2 := c1 w hB2
  obtain ⟨A2, cap2, rfl⟩ := hB2.form
  obtain ⟨l2, hl2⟩ : ∃ l2, (bs.take m).length = l2 := ⟨_, rfl⟩
  rw [hl2] at hrun2 c2
  have hsI : ¬ (len : Int) < (m : Int) := by omega
  have HRUN := Lib.hid hrun
  have HRUN2 := Lib.hid hrun2
  have HB1 := Lib.hid hB1
  have HR := Lib.hid hR
  clear hI hR hlen hs hrun hrun2 hB1 hB2 c1 hl1 hl2
  go_enter Tryd.func86, Tryd.ntmps86
  go_wp2_with (first
    | refine wpList_slice_ran (o := ⟨some 20, _, _, _, _, _⟩) rfl _ _ _ _ _ rfl rfl rfl rfl rfl (HRUN2.out _) ?_
    | refine wpList_slice_ran (o := ⟨some 28, _, _, _, _, _⟩) rfl _ _ _ _ _ rfl rfl rfl rfl rfl (HRUN.out _) ?_)
  go_ret2
  exact ⟨rfl, grown_set (i := 0) (grown_refl _ _) _, by simp [World.setCell], _, HR.out.set _, Bytes.below ((Below.refl n₀ _).setCell (p := ⟨rb, 0, none⟩) hn _) HB1.out⟩

end Go.Proofs.YtdikmlnpclklnaaDoor.Wire

/-
  The document's own reading of a list.
-/
namespace Go.Proofs.YtdikmlnpclklnaaDoor.Wire
open Go Go.RowKit Go.Proofs.YtdikmlnpclklnaaDoor.Law

theorem rdI_err : ∀ (b c : Nat) (bs : List Nat) (k : Nat), rdI b c bs = .error k → k ≠ 0 := by
  intro b
  induction b with
  | zero => intro c bs k h; simp [rdI] at h; omega
  | succ b ih =>
    have hL : ∀ (n c : Nat) (bs : List Nat) (acc : List Item) (k : Nat), rdL (rdI b) n c bs acc = .error k → k ≠ 0 := by
      intro n
      induction n with
      | zero => intro c bs acc k h; simp [rdL] at h
      | succ n ihn =>
        intro c bs acc k h
        rw [rdL] at h
        match hq : rdI b c bs with
        | .error e => rw [hq] at h; simp only [Except.error.injEq] at h; subst h; exact ih c bs e hq
        | .ok (y, c2, r2) => rw [hq] at h; exact ihn c2 r2 _ k h
    intro c bs k h
    rw [rdI] at h
    split at h
    · simp only [Except.error.injEq] at h; omega
    · match hh : rdHead bs with
      | .error e =>
        rw [hh] at h
        simp only [Except.error.injEq] at h
        subst h
        match bs, hh with
        | [], hh => simp [rdHead] at hh; omega
        | q :: bs, hh =>
          rw [rdHead] at hh
          split at hh
          · simp only [Except.error.injEq] at hh; omega
          · match hz : rdNum 0 0 bs with
            | .error e' => rw [hz] at hh; simp only [Except.error.injEq] at hh; subst hh; exact rdNum_err _ _ _ _ hz
            | .ok (m, r2) =>
              rw [hz] at hh
              simp only at hh
              split at hh
              · simp only [Except.error.injEq] at hh; omega
              · cases hh
      | .ok (q, n, r1) =>
        rw [hh] at h
        simp only at h
        split at h
        · cases h
        · split at h
          · split at h
            · simp only [Except.error.injEq] at h; omega
            · cases h
          · match hq : rdL (rdI b) n (c + 1) r1 [] with
            | .error e => rw [hq] at h; simp only [Except.error.injEq] at h; subst h; exact hL _ _ _ _ _ hq
            | .ok (l, c2, r2) => rw [hq] at h; cases h

/-- A list out of its items. -/
def listOf : Except Nat (List Item × Nat × List Nat) → Except Nat (Item × Nat × List Nat)
  | .error e => .error e
  | .ok (l, c, r) => .ok (.mk 2 0 noT l, c, r)

abbrev listBox (u : Value) : Obj := .cells #[.int .i64 2, .int .i64 0, .string ⟨#[]⟩, u] 72

theorem Grow.own {lo hi : Nat} {W : World} {v : Value} {l : List Item} (h : Grow lo hi W v l) : ∀ b, v.ownBlock = some b → lo ≤ b ∧ b < hi := fun b hb => by
  obtain ⟨_, h0, val, h1, _⟩ := h
  exact ⟨(h1.1.lt b hb).1, h0 b hb⟩

end Go.Proofs.YtdikmlnpclklnaaDoor.Wire

/-
  The parts that are open, in their block; an item is put behind a part's items.
-/
namespace Go.Proofs.YtdikmlnpclklnaaDoor.Wire
open Go Go.RowKit Go.Proofs.YtdikmlnpclklnaaDoor.Law

/-- The block of the parts: 18 cells. -/
def PB (W : World) (pb : Nat) (f : Nat → Value) : Prop := ∀ i, i < 18 → W.cell? ⟨pb, i, none⟩ = some (f i) ∧ W.frozen? ⟨pb, i, none⟩ = false
theorem PB.keep {W W' : World} {pb : Nat} {f : Nat → Value} (h : PB W pb f) (hb : W'.heap[pb]? = W.heap[pb]?) : PB W' pb f := fun i hi => by
  obtain ⟨h1, h2⟩ := h i hi
  exact ⟨(by simp only [World.cell?, hb] at h1 ⊢; exact h1), (by simp only [World.frozen?, hb] at h2 ⊢; exact h2)⟩
theorem PB.lt {W : World} {pb : Nat} {f : Nat → Value} (h : PB W pb f) : pb < W.heap.size := block_lt_cell (h 0 (by omega)).1
theorem PB.set {W : World} {pb : Nat} {f : Nat → Value} (h : PB W pb f) (k : Nat) (hk : k < 18) (v : Value) : PB (W.setCell ⟨pb, k, none⟩ v) pb (fun j => if j = k then v else f j) := fun i hi => by
  obtain ⟨h1, h2⟩ := h i hi
  refine ⟨?_, by rw [World.frozen?_setCell]; exact h2⟩
  by_cases hik : i = k
  · subst hik
    dsimp only
    rw [if_pos rfl]; exact World.cell?_setCell_same _ _ _ h1
  · dsimp only
    rw [if_neg hik, World.cell?_setCell_other _ _ _ _ (fun e => hik (by simpa using e.symm))]
    exact h1

theorem flat_last (l : List Item) (z x : Item) (val : Nat → Value) (u : Value) :
    (((((flat (l ++ [z]) val).set (l.length * 4) (.int .i64 x.kind)).set (l.length * 4 + 1) (.int .i64 x.n)).set (l.length * 4 + 2) (.string x.s)).set (l.length * 4 + 3) u) = flat (l ++ [x]) (fun j => if j = l.length then u else val j) := by
  have h := flat_length l val
  rw [flat_append, flat_append]
  rw [flat_congr l (fun j => if j = l.length then u else val j) val (fun j hj => by rw [if_neg (by omega)])]
  simp only [flat]
  rw [← h]
  simp [List.set_append_right]

/-- The last item is written over. -/
theorem Grow.fill {lo hi g cap : Nat} {W : World} {l : List Item} {z : Item} (h : Grow lo hi W (.slice (some ⟨g, 0, none⟩) (l.length + 1) cap) (l ++ [z])) (x : Item) (u : Value) (hu : Items (fun b => lo ≤ b ∧ b < hi ∧ b ≠ g) W u x.kids) :
    Grow lo hi ((((W.setCell ⟨g, l.length * 4, none⟩ (.int .i64 x.kind)).setCell ⟨g, l.length * 4 + 1, none⟩ (.int .i64 x.n)).setCell ⟨g, l.length * 4 + 2, none⟩ (.string x.s)).setCell ⟨g, l.length * 4 + 3, none⟩ u) (.slice (some ⟨g, 0, none⟩) (l.length + 1) cap) (l ++ [x]) := by
  obtain ⟨h3, h0, val, h1, h2⟩ := h
  have hone : u.oneCell' = true := by obtain ⟨A, c, hue, _⟩ := hu.form; rw [hue]; rfl
  have hl : (l ++ [z]).length = l.length + 1 := by simp
  have hl2 : (l ++ [x]).length = l.length + 1 := by simp
  have hw : ∀ b, b ≠ g → ((((W.setCell ⟨g, l.length * 4, none⟩ (.int .i64 x.kind)).setCell ⟨g, l.length * 4 + 1, none⟩ (.int .i64 x.n)).setCell ⟨g, l.length * 4 + 2, none⟩ (.string x.s)).setCell ⟨g, l.length * 4 + 3, none⟩ u).heap[b]? = W.heap[b]? := fun b hb => by
    rw [Below.heap_setCell _ _ _ _ hb, Below.heap_setCell _ _ _ _ hb, Below.heap_setCell _ _ _ _ hb, Below.heap_setCell _ _ _ _ hb]
  refine ⟨by simpa [World.setCell] using h3, h0, fun j => if j = l.length then u else val j, ⟨?_, fun j hj => ?_⟩, fun j y hy => ?_⟩
  · have r := h1.1
    rw [hl] at r
    have r1 := (r.stored (l.length * 4) (.int .i64 x.kind)).1
    have r2 := (r1.stored (l.length * 4 + 1) (.int .i64 x.n)).1
    have r3 := (r2.stored (l.length * 4 + 2) (.string x.s)).1
    have r4 := (r3.stored (l.length * 4 + 3) u).1
    rw [flat_last] at r4
    rw [hl2]
    exact r4
  · dsimp only
    split
    · exact hone
    · exact h1.2 j (by rw [hl2] at hj; rw [hl]; exact hj)
  · dsimp only
    split
    · rename_i hj
      subst hj
      have : y = x := by simpa using hy.symm
      subst this
      exact hu.keep (fun b hb => hw b hb.2.2) (fun b hb => ⟨hb.1, hb.2.1, fun e => hb.2.2 (by simpa [Value.ownBlock] using e.symm)⟩)
    · rename_i hj
      have hj2 : j < l.length := by
        have := (List.getElem?_eq_some_iff.1 hy).1
        rw [hl2] at this; omega
      rw [List.getElem?_append_left hj2] at hy
      exact (h2 j y (by rw [List.getElem?_append_left hj2]; exact hy)).keep (fun b hb => hw b (fun e => hb.2.2 (by simp [Value.ownBlock, e]))) (fun b hb => hb)

/-- What put leaves. -/
def PutDone (W : World) (pb d lo : Nat) (f : Nat → Value) (v : Value) (n : Int) (l : List Item) (W' : World) : Prop :=
  ∃ v', PB W' pb (fun j => if j = d * 2 + 1 then .int .i64 (n - 1) else if j = d * 2 then v' else f j) ∧ Grow lo W'.heap.size W' v' l ∧ W.os = W'.os ∧ W.tape = W'.tape ∧ W.output = W'.output ∧ W.heap.size ≤ W'.heap.size ∧
    ∀ k, k < W.heap.size → k ≠ pb → v.ownBlock ≠ some k → W'.heap[k]? = W.heap[k]?

/-- The zero item. -/
abbrev zeroI : Item := .mk 0 0 noT []

/-- The append of put, and what lies behind it. -/
theorem put_append {W : World} {lo hi : Nat} {v : Value} {acc : List Item} (hG : Grow lo hi W v acc) (hlo : lo ≤ hi) (hroom : acc.length ≤ 5000) (ty : TypeId) (o : Obj) :
    ∃ g cap W1, (Builtin.append_ #[70, 70] ty #[v, .slice (some ⟨W.heap.size + 1, 0, none⟩) 1 1]).run Tryd.prog (((W.alloc o).drew).alloc (.cells #[.int .i64 0, .int .i64 0, .string ⟨#[]⟩, .slice none 0 0] 72)) = .ok (.slice (some ⟨g, 0, none⟩) (acc.length + 1) cap) W1 ∧
      Grow lo W1.heap.size W1 (.slice (some ⟨g, 0, none⟩) (acc.length + 1) cap) (acc ++ [zeroI]) ∧ W.grownBy W1 v.ownBlock ∧ (v.ownBlock = some g ∨ W.heap.size ≤ g) ∧ lo ≤ g := by
  have hz : hi ≤ W.heap.size := hG.1
  have hgo := hG.own
  have hG2 : Grow lo (W.heap.size + 1) (W.alloc o).drew v acc := hG.keep (fun b _ hb => Below.heap_alloc _ _ _ (by omega)) (by omega) (by simp)
  obtain ⟨v', W1, hrun, hG1, hgr, hor⟩ := hG2.append (by omega) zeroI (.slice none 0 0) (.nil none 0 _ (fun _ => rfl) rfl) ty (by omega)
  obtain ⟨A, cap, hv', _⟩ := hG1.form
  have hl : (acc ++ [zeroI]).length = acc.length + 1 := by simp
  rw [hl] at hv'
  have hgo1 := hG1.own
  obtain ⟨_, _, val, hO, _⟩ := id hG1
  rcases hO.1.2 with ⟨hnil, hz0⟩ | ⟨g, cap', cur, hv2, _⟩
  · rw [hl] at hz0; omega
  · rw [hl] at hv2
    subst hv2
    have hsz1 : ((W.alloc o).drew).heap.size = W.heap.size + 1 := by simp
    refine ⟨g, cap', W1, ?_, hG1, ?_, ?_, (hgo1 g rfl).1⟩
    · rw [hsz1] at hrun
      exact hrun
    · refine ⟨hgr.os, hgr.tape, hgr.output, by have := hgr.size; simp at this; omega, fun k hk hne => (hgr.block k (by rw [hsz1]; omega) hne).trans (Below.heap_alloc _ _ _ hk)⟩
    · rcases hor with h1 | h1
      · exact .inl h1.symm
      · right
        rw [hsz1] at h1
        simp only [Value.ownBlock, Option.some.injEq] at h1
        omega

theorem put_done {W W1 : World} {pb d lo g cap : Nat} {f : Nat → Value} {v u : Value} {n : Int} {acc : List Item} {x : Item} (hPB : PB W pb f) (hd : d ≤ 8) (hpb : pb < lo) (hown : ∀ b, v.ownBlock = some b → lo ≤ b) (hlg : lo ≤ g)
    (hG1 : Grow lo W1.heap.size W1 (.slice (some ⟨g, 0, none⟩) (acc.length + 1) cap) (acc ++ [zeroI])) (hgr : W.grownBy W1 v.ownBlock) (hor : v.ownBlock = some g ∨ W.heap.size ≤ g)
    (hu : Items (fun b => lo ≤ b ∧ b < W.heap.size ∧ v.ownBlock ≠ some b) W u x.kids) {W' : World}
    (hW' : W' = (((((((W1.setCell ⟨g, acc.length * 4, none⟩ (.int .i64 x.kind)).setCell ⟨g, acc.length * 4 + 1, none⟩ (.int .i64 x.n)).setCell ⟨g, acc.length * 4 + 2, none⟩ (.string x.s)).setCell ⟨g, acc.length * 4 + 3, none⟩ u).setCell ⟨pb, d * 2, none⟩ (.slice (some ⟨g, 0, none⟩) (acc.length + 1) cap)).setCell ⟨pb, d * 2 + 1, none⟩ (.int .i64 (n - 1))))) :
    PutDone W pb d lo f v n (acc ++ [x]) W' := by
  have hpl := hPB.lt
  have hfill := hG1.fill x u (hu.keep (fun b hb => hgr.block b hb.2.1 (fun e => hb.2.2 e.symm)) (fun b hb => ⟨hb.1, by have := hgr.size; omega, fun e => by
    rcases hor with h | h
    · exact hb.2.2 (by rw [h, e])
    · omega⟩))
  have hPB1 : PB W1 pb f := hPB.keep (hgr.block pb hpl (fun e => by have := hown pb e.symm; omega))
  have hgp : pb ≠ g := by omega
  have hPB2 := PB.keep (W' := ((((W1.setCell ⟨g, acc.length * 4, none⟩ (.int .i64 x.kind)).setCell ⟨g, acc.length * 4 + 1, none⟩ (.int .i64 x.n)).setCell ⟨g, acc.length * 4 + 2, none⟩ (.string x.s)).setCell ⟨g, acc.length * 4 + 3, none⟩ u)) hPB1 (by
    rw [Below.heap_setCell _ _ _ _ hgp, Below.heap_setCell _ _ _ _ hgp, Below.heap_setCell _ _ _ _ hgp, Below.heap_setCell _ _ _ _ hgp])
  have hPB3 := (hPB2.set (d * 2) (by omega) (.slice (some ⟨g, 0, none⟩) (acc.length + 1) cap)).set (d * 2 + 1) (by omega) (.int .i64 (n - 1))
  rw [← hW'] at hPB3
  have hsz : W'.heap.size = W1.heap.size := by rw [hW']; simp [World.setCell]
  have hB0 : Below 0 W1 W' := by
    rw [hW']
    exact ((((((Below.refl 0 W1).setCell (Nat.zero_le _) _).setCell (Nat.zero_le _) _).setCell (Nat.zero_le _) _).setCell (Nat.zero_le _) _).setCell (Nat.zero_le _) _).setCell (Nat.zero_le _) _
  refine ⟨.slice (some ⟨g, 0, none⟩) (acc.length + 1) cap, hPB3, ?_, ?_, ?_, ?_, ?_, fun k hk hne hno => ?_⟩
  · refine hfill.keep (fun b hb _ => ?_) (by rw [hsz]; exact Nat.le_refl _) (Nat.le_refl _)
    rw [hW', Below.heap_setCell _ _ _ _ (by show b ≠ pb; omega), Below.heap_setCell _ _ _ _ (by show b ≠ pb; omega)]
  · exact (hB0.os.trans hgr.os).symm
  · exact (hB0.tape.trans hgr.tape).symm
  · exact (hB0.output.trans hgr.output).symm
  · rw [hsz]; exact hgr.size
  · have hkg : k ≠ g := fun e => by
      rcases hor with h | h
      · exact hno (by rw [h, e])
      · omega
    rw [hW', Below.heap_setCell _ _ _ _ hne, Below.heap_setCell _ _ _ _ hne, Below.heap_setCell _ _ _ _ hkg, Below.heap_setCell _ _ _ _ hkg, Below.heap_setCell _ _ _ _ hkg, Below.heap_setCell _ _ _ _ hkg]
    exact hgr.block k hk (fun e => hno e.symm)

set_option maxRecDepth 100000 in
set_option maxHeartbeats 4000000 in
theorem put_calls (x : Item) (Au : Option Addr) (lu cu pb d lo hi : Nat) (f : Nat → Value) (v : Value) (n : Int) (acc : List Item) (W : World) (hPB : PB W pb f) (hd : d ≤ 8) (h0 : f (d * 2) = v) (h1 : f (d * 2 + 1) = .int .i64 n)
    (hn : -9223372036854775807 ≤ n ∧ n ≤ 9223372036854775807) (hG : Grow lo hi W v acc) (hlo : lo ≤ hi) (hpb : pb < lo) (hroom : acc.length ≤ 5000)
    (hu : Items (fun b => lo ≤ b ∧ b < W.heap.size ∧ v.ownBlock ≠ some b) W (.slice Au lu cu) x.kids) :
    Calls Tryd.prog 83 #[.pointer (some ⟨pb, d * 2, none⟩), aggOf x (.slice Au lu cu)] W fun e W' => e = .returned (.tuple #[]) ∧ PutDone W pb d lo f v n (acc ++ [x]) W' := by
  have hown := hG.own
  obtain ⟨g, cap, W1, hrun, hG1, hgr, hor, hlg⟩ := put_append hG hlo hroom 70 (.cells #[.int .i64 x.kind, .int .i64 x.n, .string x.s, .slice Au lu cu] 72)
  obtain ⟨A, cap0, rfl, _⟩ := hG.form
  obtain ⟨len, hlen⟩ : ∃ len, acc.length = len := ⟨_, rfl⟩
  rw [hlen] at hrun
  have hc0 := (hPB (d * 2) (by omega)).1
  have hc1 := (hPB (d * 2 + 1) (by omega)).1
  have hz0 := (hPB (d * 2) (by omega)).2
  have hz1 := (hPB (d * 2 + 1) (by omega)).2
  rw [h0, hlen] at hc0
  rw [h1] at hc1
  have HRUN := Lib.hid hrun
  have hpl := hPB.lt
  have hPB1 : PB W1 pb f := hPB.keep (hgr.block pb hpl (fun e => by have := hown pb e.symm; omega))
  have hc0' := (hPB1 (d * 2) (by omega)).1
  have hc1' := (hPB1 (d * 2 + 1) (by omega)).1
  have hz0' := (hPB1 (d * 2) (by omega)).2
  have hz1' := (hPB1 (d * 2 + 1) (by omega)).2
  rw [h0, hlen] at hc0'
  rw [h1] at hc1'
  obtain ⟨_, _, val, hO, _⟩ := id hG1
  have hcell := hO.cells (by simp) (j := acc.length) (x := zeroI) (by simp)
  obtain ⟨⟨i0, i1, i2, i3⟩, hfz⟩ := hcell
  rw [hlen] at i0 i1 i2 i3
  have j0 := hfz (len * 4)
  have j1 := hfz (len * 4 + 1)
  have j2 := hfz (len * 4 + 2)
  have j3 := hfz (len * 4 + 3)
  have hgp : ¬ g = pb := by omega
  have hpg : ¬ pb = g := by omega
  have hWp : ¬ pb = W.heap.size := by omega
  have hlenI : (len : Int) ≤ 5000 := by omega
  have hltI : (len : Int) < (len : Int) + 1 := by omega
  have hcapI : len ≤ cap0 := by rename_i h; omega
  have HDONE := fun W' => Lib.hid (put_done (W' := W') (x := x) (u := .slice Au lu cu) (n := n) hPB hd hpb (fun b hb => (hown b hb).1) hlg hG1 hgr hor hu)
  rw [hlen] at HDONE ⊢
  clear hrun hG hG1 hgr hor hu hown hO hfz hPB hPB1 h0 h1 hlen
  unfold aggOf
  go_enter Tryd.func83, Tryd.ntmps83
  go_wp2_with fail
  go_region_law (refine step_append_ran rfl _ _ _ rfl rfl rfl HRUN.out ?_)
  all_goals clear HRUN hc0 hc1 hz0 hz1
  all_goals
    go_wp2
    go_end0
    refine ⟨rfl, (HDONE _).out ?_⟩
    first
    | with_reducible rfl
    | rw [setCell_swap _ ⟨pb, d * 2, none⟩ ⟨g, len * 4, none⟩ _ _ hpg, setCell_swap _ ⟨pb, d * 2, none⟩ ⟨g, len * 4 + 1, none⟩ _ _ hpg, setCell_swap _ ⟨pb, d * 2, none⟩ ⟨g, len * 4 + 2, none⟩ _ _ hpg, setCell_swap _ ⟨pb, d * 2, none⟩ ⟨g, len * 4 + 3, none⟩ _ _ hpg]

end Go.Proofs.YtdikmlnpclklnaaDoor.Wire

/-
  What lies while a message is read: the bytes that are left, and the parts that are open.
-/
namespace Go.Proofs.YtdikmlnpclklnaaDoor.Wire
open Go Go.RowKit Go.Proofs.YtdikmlnpclklnaaDoor.Law

/-- The parts ahead of the innermost one, their items in blocks from base up to hi. -/
def Stk (W : World) (base : Nat) (f : Nat → Value) (c : Nat) : List (List Item × Int) → Nat → Prop
  | [], hi => base ≤ hi
  | (a, t) :: ps, hi => ∃ lo, Stk W base f c ps lo ∧ lo ≤ hi ∧ Grow lo hi W (f (ps.length * 2)) a ∧ f (ps.length * 2 + 1) = .int .i64 t ∧ a.length + 1 ≤ c ∧ t ≤ 9223372036854775807 ∧ (ps = [] → t = -(a.length : Int)) ∧ (ps ≠ [] → 1 ≤ t)

theorem Stk.le {W : World} {base : Nat} {f : Nat → Value} {c : Nat} : ∀ {ps : List (List Item × Int)} {hi : Nat}, Stk W base f c ps hi → base ≤ hi
  | [], _, h => h
  | (_, _) :: _, _, ⟨_, h1, h2, _⟩ => Nat.le_trans (Stk.le h1) h2

theorem Stk.keep {W W' : World} {base : Nat} {f f' : Nat → Value} {c c' : Nat} (hc : c ≤ c') : ∀ {ps : List (List Item × Int)} {hi : Nat}, (∀ b, base ≤ b → b < hi → W'.heap[b]? = W.heap[b]?) → hi ≤ W'.heap.size → (∀ i, i < ps.length * 2 → f' i = f i) →
    Stk W base f c ps hi → Stk W' base f' c' ps hi
  | [], _, _, _, _, h => h
  | (a, t) :: ps, hi, hb, hs, hf, ⟨lo, h1, h2, h3, h4, h5, h6, h7, h8⟩ => by
    have hl := h1.le
    refine ⟨lo, Stk.keep hc (fun b hb1 hb2 => hb b hb1 (by omega)) (by omega) (fun i hi => hf i (by simp only [List.length_cons]; omega)) h1, h2, ?_, ?_, by omega, h6, h7, h8⟩
    · rw [hf _ (by simp only [List.length_cons]; omega)]
      exact h3.keep (fun b hb1 hb2 => hb b (by omega) hb2) (Nat.le_refl _) hs
    · rw [hf _ (by simp only [List.length_cons]; omega)]; exact h4

/-- What lies. -/
def Lies (w : World) (rb n₀ : Nat) (ps : List (List Item × Int)) (acc : List Item) (n : Int) (c : Nat) (bs : List Nat) (W : World) : Prop :=
  ∃ B f lo, Rdr W rb B ∧ Bytes n₀ W B bs ∧ PB W w.heap.size f ∧ w.grownBy W (some rb) ∧ Stk W (w.heap.size + 1) f c ps lo ∧ lo ≤ W.heap.size ∧ Grow lo W.heap.size W (f (ps.length * 2)) acc ∧ f (ps.length * 2 + 1) = .int .i64 n

/-- How many there are. -/
def Num (ps : List (List Item × Int)) (acc : List Item) (n : Int) (c : Nat) : Prop :=
  c ≤ 4096 ∧ ps.length ≤ 8 ∧ acc.length ≤ c ∧ n ≤ 9223372036854775807 ∧ (ps = [] → n = -(acc.length : Int)) ∧ (ps ≠ [] → 0 ≤ n)

theorem Num.low {ps : List (List Item × Int)} {acc : List Item} {n : Int} {c : Nat} (h : Num ps acc n c) : -4096 ≤ n := by
  obtain ⟨h1, h2, h3, h4, h5, h6⟩ := h
  by_cases hp : ps = []
  · have := h5 hp; omega
  · have := h6 hp; omega

theorem Lies.below {w W W' : World} {rb n₀ : Nat} {ps : List (List Item × Int)} {acc : List Item} {n : Int} {c : Nat} {bs : List Nat} (h : Lies w rb n₀ ps acc n c bs W) (hn : n₀ ≤ W.heap.size) (hB : Below W.heap.size W W') : Lies w rb n₀ ps acc n c bs W' := by
  obtain ⟨B, f, lo, h1, h2, h3, h4, h5, h6, h7, h8⟩ := h
  refine ⟨B, f, lo, (hB.block rb (lt_of_some h1)).trans h1, h2.below (hB.mono hn), h3.keep (hB.block _ h3.lt), h4.trans (grown_of_below hB _), h5.keep (Nat.le_refl _) (fun b _ hb => hB.block b (by omega)) (by have := hB.size; omega) (fun _ _ => rfl), by have := hB.size; omega, h7.below hB, h8⟩
theorem Lies.drew {w W : World} {rb n₀ : Nat} {ps : List (List Item × Int)} {acc : List Item} {n : Int} {c : Nat} {bs : List Nat} (h : Lies w rb n₀ ps acc n c bs W) (hn : n₀ ≤ W.heap.size) : Lies w rb n₀ ps acc n c bs W.drew := h.below hn (Below.refl _ _).drew

/-- The bytes that are left have turned. -/
theorem Lies.rest {w W W' : World} {rb n₀ : Nat} {ps : List (List Item × Int)} {acc : List Item} {n : Int} {c : Nat} {bs bs' : List Nat} {B' : Value} (h : Lies w rb n₀ ps acc n c bs W) (hrb : rb < w.heap.size) (hG : W.grownBy W' (some rb)) (hs : W.heap.size = W'.heap.size) (hR : Rdr W' rb B') (hI : Bytes n₀ W' B' bs') :
    Lies w rb n₀ ps acc n c bs' W' := by
  obtain ⟨B, f, lo, h1, h2, h3, h4, h5, h6, h7, h8⟩ := h
  have hl := h5.le
  have hpl := h3.lt
  have hblk : ∀ b, w.heap.size ≤ b → b < W.heap.size → W'.heap[b]? = W.heap[b]? := fun b hb1 hb2 => hG.block b hb2 (fun e => by simp at e; omega)
  refine ⟨B', f, lo, hR, hI, h3.keep (hblk _ (Nat.le_refl _) hpl), h4.trans hG, h5.keep (Nat.le_refl _) (fun b hb1 hb2 => hblk b (by omega) (by omega)) (by omega) (fun _ _ => rfl), by omega, ?_, h8⟩
  have := h7.keep (W' := W') (hi' := W'.heap.size) (fun b hb1 hb2 => hblk b (by omega) hb2) (by omega) (Nat.le_refl _)
  exact this

/-- An item was put into the innermost part. -/
theorem Lies.putDone {w W W' : World} {rb n₀ : Nat} {ps : List (List Item × Int)} {l : List Item} {n : Int} {c c' : Nat} {bs : List Nat} {f : Nat → Value} {lo : Nat} {v B : Value} (hrb : rb < w.heap.size) (hn : n₀ ≤ rb) (hc : c ≤ c')
    (h1 : Rdr W rb B) (h2 : Bytes n₀ W B bs) (h4 : w.grownBy W (some rb)) (h5 : Stk W (w.heap.size + 1) f c ps lo) (h6 : lo ≤ W.heap.size) (hown : ∀ b, v.ownBlock = some b → lo ≤ b)
    (h : PutDone W w.heap.size ps.length lo f v n l W') : Lies w rb n₀ ps l (n - 1) c' bs W' := by
  obtain ⟨v', p1, p2, p3, p4, p5, p6, p7⟩ := h
  have hl := h5.le
  have hno : ∀ b, b < lo → v.ownBlock ≠ some b := fun b hb e => by have := hown b e; omega
  have hlow : Below w.heap.size W W' := ⟨p3.symm, p4.symm, p5.symm, p6, fun b hb => p7 b (by omega) (by omega) (hno b (by omega))⟩
  refine ⟨B, _, lo, (hlow.block rb hrb).trans h1, h2.below (hlow.mono (by omega)), p1, ⟨p3.symm.trans h4.os, p4.symm.trans h4.tape, p5.symm.trans h4.output, Nat.le_trans h4.size p6, fun b hb hne => (hlow.block b hb).trans (h4.block b hb hne)⟩, ?_, by omega, ?_, ?_⟩
  · refine h5.keep hc (fun b hb1 hb2 => p7 b (by omega) (by omega) (hno b hb2)) (by omega) (fun i hi => ?_)
    try dsimp only
    rw [if_neg (by omega), if_neg (by omega)]
  · try dsimp only
    rw [if_neg (by omega), if_pos rfl]; exact p2
  · try dsimp only
    rw [if_pos rfl]

theorem Lies.put {w W : World} {rb n₀ : Nat} {ps : List (List Item × Int)} {acc : List Item} {n : Int} {c : Nat} {bs : List Nat} (h : Lies w rb n₀ ps acc n c bs W) (hN : Num ps acc n c) (hrb : rb < w.heap.size) (hn : n₀ ≤ rb) (x : Item) (hx : x.kids = []) (c' : Nat) (hc : c ≤ c') :
    Calls Tryd.prog 83 #[.pointer (some ⟨w.heap.size, ps.length * 2, none⟩), aggOf x (.slice none 0 0)] W fun e W' => e = .returned (.tuple #[]) ∧ Lies w rb n₀ ps (acc ++ [x]) (n - 1) c' bs W' := by
  have hlow := hN.low
  obtain ⟨B, f, lo, h1, h2, h3, h4, h5, h6, h7, h8⟩ := h
  obtain ⟨n1, n2, n3, n4, n5, n6⟩ := hN
  have hl := h5.le
  refine (put_calls x none 0 0 w.heap.size ps.length lo W.heap.size f _ n acc W h3 n2 rfl h8 (by omega) h7 h6 (by omega) (by omega) (.nil none 0 _ (fun _ => rfl) hx)).mono ?_
  rintro e W' ⟨he, hP⟩
  exact ⟨he, Lies.putDone hrb hn hc h1 h2 h4 h5 h6 (fun b hb => (h7.own b hb).1) hP⟩

/-- The innermost part is done: its items are put into the one ahead. -/
theorem Lies.close {w W : World} {rb n₀ : Nat} {ps : List (List Item × Int)} {a acc : List Item} {t n : Int} {c : Nat} {bs : List Nat} (h : Lies w rb n₀ ((a, t) :: ps) acc n c bs W) (hN : Num ((a, t) :: ps) acc n c) (hrb : rb < w.heap.size) (hn : n₀ ≤ rb) :
    ∃ Au lu cu, W.cell? ⟨w.heap.size, (ps.length + 1) * 2, none⟩ = some (.slice Au lu cu) ∧ Num ps (a ++ [.mk 2 0 noT acc]) (t - 1) c ∧
    Calls Tryd.prog 83 #[.pointer (some ⟨w.heap.size, ps.length * 2, none⟩), aggOf (.mk 2 0 noT acc) (.slice Au lu cu)] W fun e W' => e = .returned (.tuple #[]) ∧ Lies w rb n₀ ps (a ++ [.mk 2 0 noT acc]) (t - 1) c bs W' := by
  obtain ⟨B, f, lo, h1, h2, h3, h4, ⟨lo', k1, k2, k3, k4, k5, k6, k7, k8⟩, h6, h7, h8⟩ := h
  obtain ⟨n1, n2, n3, n4, n5, n6⟩ := hN
  have hl := k1.le
  obtain ⟨Au, cu, hv, _⟩ := h7.form
  simp only [List.length_cons] at hv h7 n2
  refine ⟨Au, acc.length, cu, ?_, ⟨n1, by omega, by simp; omega, by omega, fun hp => by rw [k7 hp]; simp; omega, fun hp => by have := k8 hp; omega⟩, ?_⟩
  · rw [← hv]; exact (h3 ((ps.length + 1) * 2) (by omega)).1
  have hu : Items (fun b => lo' ≤ b ∧ b < W.heap.size ∧ (f (ps.length * 2)).ownBlock ≠ some b) W (.slice Au acc.length cu) (Item.kids (.mk 2 0 noT acc)) := by
    rw [← hv]
    exact h7.items.mono (fun b hb => ⟨by omega, hb.2, fun e => by have := (k3.own b e).2; omega⟩)
  have hlow : -9223372036854775807 ≤ t := by
    by_cases hp : ps = []
    · have := k7 hp; omega
    · have := k8 hp; omega
  have k3' : Grow lo' lo W (f (ps.length * 2)) a := k3
  refine (put_calls (.mk 2 0 noT acc) Au acc.length cu w.heap.size ps.length lo' lo f _ t a W h3 (by omega) rfl k4 ⟨hlow, k6⟩ k3' k2 (by omega) (by omega) hu).mono ?_
  rintro e W' ⟨he, hP⟩
  exact ⟨he, Lies.putDone hrb hn (Nat.le_refl _) h1 h2 h4 k1 (by omega) (fun b hb => (k3.own b hb).1) hP⟩

set_option maxHeartbeats 1000000 in
/-- A list is begun. -/
theorem Lies.push {w W : World} {rb n₀ : Nat} {ps : List (List Item × Int)} {acc : List Item} {n : Int} {c m : Nat} {bs : List Nat} (h : Lies w rb n₀ ps acc n c bs W) (hN : Num ps acc n c) (hM : ps = [] ∨ 0 < n) (hrb : rb < w.heap.size) (hn : n₀ ≤ rb) (hd : ps.length < 8) (hc : c < 4096) (hm : m ≤ 9223372036854775807) :
    Num ((acc, n) :: ps) [] m (c + 1) ∧ Lies w rb n₀ ((acc, n) :: ps) [] m (c + 1) bs ((W.setCell ⟨w.heap.size, (ps.length + 1) * 2, none⟩ (.slice none 0 0)).setCell ⟨w.heap.size, (ps.length + 1) * 2 + 1, none⟩ (.int .i64 (m : Nat))) := by
  obtain ⟨B, f, lo, h1, h2, h3, h4, h5, h6, h7, h8⟩ := h
  obtain ⟨n1, n2, n3, n4, n5, n6⟩ := hN
  have hl := h5.le
  have hblk : ∀ b, b ≠ w.heap.size → ((W.setCell ⟨w.heap.size, (ps.length + 1) * 2, none⟩ (.slice none 0 0)).setCell ⟨w.heap.size, (ps.length + 1) * 2 + 1, none⟩ (.int .i64 (m : Nat))).heap[b]? = W.heap[b]? := fun b hb => by
    rw [Below.heap_setCell _ _ _ _ hb, Below.heap_setCell _ _ _ _ hb]
  have hsz : ((W.setCell ⟨w.heap.size, (ps.length + 1) * 2, none⟩ (.slice none 0 0)).setCell ⟨w.heap.size, (ps.length + 1) * 2 + 1, none⟩ (.int .i64 (m : Nat))).heap.size = W.heap.size := by simp [World.setCell]
  have hP := (h3.set ((ps.length + 1) * 2) (by omega) (.slice none 0 0)).set ((ps.length + 1) * 2 + 1) (by omega) (.int .i64 (m : Nat))
  have hB0 : Below w.heap.size W ((W.setCell ⟨w.heap.size, (ps.length + 1) * 2, none⟩ (.slice none 0 0)).setCell ⟨w.heap.size, (ps.length + 1) * 2 + 1, none⟩ (.int .i64 (m : Nat))) :=
    ((Below.refl w.heap.size W).setCell (p := ⟨w.heap.size, (ps.length + 1) * 2, none⟩) (Nat.le_refl w.heap.size) (.slice none 0 0)).setCell (p := ⟨w.heap.size, (ps.length + 1) * 2 + 1, none⟩) (Nat.le_refl w.heap.size) (.int .i64 (m : Nat))
  obtain ⟨W', hW'⟩ : ∃ W', ((W.setCell ⟨w.heap.size, (ps.length + 1) * 2, none⟩ (.slice none 0 0)).setCell ⟨w.heap.size, (ps.length + 1) * 2 + 1, none⟩ (.int .i64 (m : Nat))) = W' := ⟨_, rfl⟩
  rw [hW'] at hblk hsz hP hB0 ⊢
  clear hW'
  refine ⟨⟨by omega, by simp; omega, by simp, by omega, fun h => by simp at h, fun _ => by omega⟩, B, _, W.heap.size, (hB0.block rb hrb).trans h1, h2.below (hB0.mono (by omega)), hP, ?_, ⟨lo, ?_, h6, ?_, ?_, by omega, n4, n5, fun hp => ?_⟩, by omega, ?_, ?_⟩
  · exact ⟨hB0.os.trans h4.os, hB0.tape.trans h4.tape, hB0.output.trans h4.output, Nat.le_trans h4.size hB0.size, fun b hb hne => (hB0.block b hb).trans (h4.block b hb hne)⟩
  · refine h5.keep (by omega) (fun b hb1 hb2 => hblk b (by omega)) (by omega) (fun i hi => ?_)
    try dsimp only
    rw [if_neg (by omega), if_neg (by omega)]
  · try dsimp only
    rw [if_neg (by omega), if_neg (by omega)]
    exact h7.keep (fun b hb1 hb2 => hblk b (by omega)) (Nat.le_refl _) (by omega)
  · try dsimp only
    rw [if_neg (by omega), if_neg (by omega)]; exact h8
  · rcases hM with h | h
    · exact absurd h hp
    · omega
  · simp only [List.length_cons]
    try dsimp only
    rw [if_neg (by omega)]
    simp only [if_true]
    rw [hsz]
    exact Grow.nil _ _ _ (by rw [hsz]; exact Nat.le_refl _)
  · simp only [List.length_cons]
    try dsimp only
    simp only [if_true]

end Go.Proofs.YtdikmlnpclklnaaDoor.Wire
