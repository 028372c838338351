/-
  Put together out of texts of one chain: what they hold stands ahead of each.
-/
import Derived.Test.YtdikmlnpclklnaaGreatDoorGSlotScripts12
import Derived.Laws.BitsAllLaws
import Derived.Lib.VarintBits
import Derived.Lib.Zigzag
import Derived.Test.YtdikmlnpclklnaaGreatDoorCells
import Derived.Deep.RegionLaw
/-
  The program's own reading of a number.
-/
namespace Go.Proofs.YtdikmlnpclklnaaGreatDoor.Wire
open Go Go.RowKit Go.Proofs.YtdikmlnpclklnaaGreatDoor.Law

/-- The reader's block. -/
def Rdr (W : World) (rb : Nat) (B : Value) : Prop := W.heap[rb]? = some (Obj.cells #[B] 206 (0, 0))
theorem Rdr.cells {W : World} {rb : Nat} {B : Value} (h : Rdr W rb B) : W.cell? ⟨rb, 0, none⟩ = some B ∧ W.frozen? ⟨rb, 0, none⟩ = false := by
  unfold Rdr at h
  refine ⟨?_, ?_⟩ <;> simp [World.cell?, World.frozen?, h]
theorem Rdr.set {W : World} {rb : Nat} {B : Value} (h : Rdr W rb B) (v : Value) : Rdr (W.setCell ⟨rb, 0, none⟩ v) rb v := by
  unfold Rdr at h ⊢
  simp [World.setCell, Array.getElem?_modify, h]

/-- What num answers. -/
def NumRead (w : World) (rb n₀ : Nat) : Except Nat (Nat × List Nat) → Ending → World → Prop
  | .ok (m, r), e, W => e = .returned (.tuple #[.int .u64 (m : Nat), .int .i64 0]) ∧ ∃ B, W = w.setCell ⟨rb, 0, none⟩ B ∧ Bytes n₀ w B r
  | .error k, e, W => e = .returned (.tuple #[.int .u64 0, .int .i64 (k : Nat)]) ∧ W = w

theorem low7 (x : Nat) (hx : x < 256) : bits .andNot .u8 (x : Int) 128 = ((x % 128 : Nat) : Int) := by
  have := u8_andNot_nat x 128 hx (by decide)
  rw [show ((128 : Nat) : Int) = 128 from rfl] at this
  rw [this]
  congr 1
  have h : x &&& (255 - 128) = x % 2 ^ 7 := by rw [show 255 - 128 = 2 ^ 7 - 1 by decide, Nat.and_two_pow_sub_one_eq_mod]
  rw [h]

theorem ret_num {k : IntKind} {a b : Int} {v : Value} (h : a = b) : Ending.returned (.tuple #[.int k a, v]) = .returned (.tuple #[.int k b, v]) := by rw [h]
theorem pow_digit (k : Nat) : (2 : Int) ^ (7 * k) = ((128 ^ k : Nat) : Int) := by
  rw [show (128 : Nat) = 2 ^ 7 by decide, ← Nat.pow_mul]
  simp
theorem or_digit (k n x : Nat) (hx : x < 256) (hn : n < 128 ^ k) (h : n + x % 128 * 128 ^ k < 18446744073709551616) :
    bits .or .u64 (n : Int) (IntKind.u64.wrap (IntKind.u64.wrap (bits .andNot .u8 (x : Int) 128) * (2 : Int) ^ (7 * k))) = ((n + x % 128 * 128 ^ k : Nat) : Int) := by
  rw [low7 x hx, pow_digit, IntKind.wrap_u64, IntKind.wrap_u64, show ((x % 128 : Nat) : Int) % 18446744073709551616 = ((x % 128 : Nat) : Int) by omega, ← Int.natCast_mul]
  obtain ⟨y, hy⟩ : ∃ y, x % 128 = y := ⟨_, rfl⟩
  rw [hy] at h ⊢
  obtain ⟨z, hz⟩ : ∃ z, y * 128 ^ k = z := ⟨_, rfl⟩
  rw [hz] at h ⊢
  rw [show ((z : Nat) : Int) % 18446744073709551616 = ((z : Nat) : Int) by omega, u64_or_nat n z (by omega) (by omega)]
  congr 1
  rw [← hz]
  rw [show (128 : Nat) = 2 ^ 7 by decide, ← Nat.pow_mul] at hn ⊢
  rw [Nat.or_comm, Nat.mul_comm, ← Nat.two_pow_add_eq_or_of_lt hn, Nat.add_comm]

set_option maxRecDepth 100000 in
set_option maxHeartbeats 4000000 in
theorem num_calls (rb n₀ : Nat) (B : Value) (bs : List Nat) (hlen0 : bs.length ≤ 65536) (w : World) (hR : Rdr w rb B) (hI : Bytes n₀ w B bs) :
    Calls Tryz.prog 190 #[.pointer (some ⟨rb, 0, none⟩)] w (NumRead w rb n₀ (rdNum 0 0 bs)) := by
  obtain ⟨A, cap, rfl⟩ := hI.form
  obtain ⟨len, hlen⟩ : ∃ len, bs.length = len := ⟨_, rfl⟩
  obtain ⟨R, hRR⟩ : ∃ R, rdNum 0 0 bs = R := ⟨_, rfl⟩
  have hcap := hI.capOk
  rw [hRR]
  rw [hlen] at hI hlen0 hR hcap
  obtain ⟨r0, z0⟩ := hR.cells
  have HR := Lib.hid hR
  have HI := Lib.hid hI
  have HL := Lib.hid hlen
  have HRR := Lib.hid hRR
  clear hR hI hlen hRR
  go_enter Tryz.func190, Tryz.ntmps190
  go_wp2
  go_loopw [4, 12] (fun a i wr => ∃ k n : Nat, i = .int .i64 k ∧ a = .int .u64 (n : Nat) ∧ k ≤ len ∧ k ≤ 9 ∧ n < 128 ^ k ∧ rdNum k n (bs.drop k) = R ∧ w = wr) (fun _ i _ => len - (intOf i).toNat)
  case atStart => exact ⟨0, 0, rfl, rfl, Nat.zero_le _, by omega, by decide, by rw [List.drop_zero, HRR.out], rfl⟩
  case round =>
    obtain ⟨k, n, rfl, rfl, hk, hk9, hnk, h1, rfl⟩ := hrel
    by_cases hlt : k < len
    · obtain ⟨x, hx⟩ : ∃ x, bs[k]? = some x := ⟨_, List.getElem?_eq_getElem (by rw [HL.out]; exact hlt)⟩
      obtain ⟨b, off, rfl, hb, hc⟩ := HI.out.cells (by omega)
      have hck := hc k hlt
      have hxd : bs.getD k 0 = x := by simp [List.getD, hx]
      have hx256 : x < 256 := HI.out.lt x (List.mem_of_getElem? hx)
      rw [hxd] at hck
      have hd : bs.drop k = x :: bs.drop (k + 1) := drop_get hx
      rw [hd, rdNum] at h1
      have hkI : (k : Int) ≤ 9 := by omega
      have hxI : (x : Int) < 256 := by omega
      by_cases hbad : (k = 9 ∧ 1 < x) ∨ (0 < k ∧ x = 0)
      · rw [if_pos hbad] at h1
        have H1 := Lib.hid h1
        have HNK := Lib.hid hnk
        clear hc hxd h1 hd hnk hx
        rcases hbad with ⟨rfl, hx1⟩ | ⟨hk0, rfl⟩
        · have hx1I : 1 < (x : Int) := by omega
          have hx1J : ¬ (x : Int) = 0 := by omega
          go_wp2
          go_ret2
          obtain rfl := H1.out
          exact ⟨rfl, rfl⟩
        · have hk0I : 0 < (k : Int) := by omega
          go_wp2
          go_ret2
          obtain rfl := H1.out
          exact ⟨rfl, rfl⟩
      · rw [if_neg hbad] at h1
        have hb9 : k = 9 → x ≤ 1 := fun h9 => by
          rcases Nat.lt_or_ge 1 x with h2 | h2
          · exact absurd (.inl ⟨h9, h2⟩) hbad
          · exact h2
        have hdb := digit_bound (k := k) (x := x) (n := n) hk9 hb9 hnk
        have hor := or_digit k n x hx256 hnk hdb.1
        have hb0 : 0 < k → ¬ x = 0 := fun h e => hbad (.inr ⟨h, e⟩)
        obtain ⟨m, hm⟩ : ∃ m, n + x % 128 * 128 ^ k = m := ⟨_, rfl⟩
        rw [hm] at hdb h1 hor
        have HDB := Lib.hid hdb
        have H1 := Lib.hid h1
        have HOR := Lib.hid hor
        have HM := Lib.hid hm
        clear hbad hdb h1 hc hxd hd hnk hor hm hx
        by_cases hsmall : x < 128
        · have hsI : (x : Int) < 128 := by omega
          obtain ⟨B1, hrun, hB1⟩ := run_behind HI.out .i64 (show k + 1 ≤ len by omega)
          obtain ⟨A1, cap1, rfl⟩ := hB1.form
          obtain ⟨l1, hl1⟩ : ∃ l1, (bs.drop (k + 1)).length = l1 := ⟨_, rfl⟩
          rw [hl1] at hB1 hrun
          have hrun1 : ∀ w', (Instr.sliceAt 29 (.slice (some ⟨b, off, none⟩) len cap) (some (.int .i64 ((k : Int) + 1))) none none).run Tryz.prog w' = .ok (.slice A1 l1 cap1) w' := fun w' => by simpa using hrun w'
          have HRUN := Lib.hid hrun1
          have HB1 := Lib.hid hB1
          have hRR : R = .ok (m, bs.drop (k + 1)) := by rw [← H1.out, if_pos hsmall]
          have HRR := Lib.hid hRR
          clear hRR hrun hrun1 hB1 hl1
          by_cases hk0 : 0 < k
          · have hk0I : 0 < (k : Int) := by omega
            have hx0I : ((x : Int) == 0) = false := by have := hb0 hk0; rw [beq_eq_false_iff_ne]; omega
            by_cases h9 : k = 9
            · have hx1 := hb9 h9
              have hx1I : (x : Int) ≤ 1 := by omega
              have h9I : ((k : Int) == 9) = true := by rw [beq_iff_eq]; omega
              clear hb9 hb0 h9
              go_wp2_with (refine wpList_slice_ran (o := ⟨some 48, _, _, _, _, _⟩) rfl _ _ _ _ _ rfl rfl rfl rfl rfl (HRUN.out _) ?_)
              go_ret2
              rw [HRR.out]
              exact ⟨ret_num HOR.out, _, rfl, HB1.out⟩
            · have h9I : ((k : Int) == 9) = false := by rw [beq_eq_false_iff_ne]; omega
              clear hb9 hb0 h9
              go_wp2_with (refine wpList_slice_ran (o := ⟨some 48, _, _, _, _, _⟩) rfl _ _ _ _ _ rfl rfl rfl rfl rfl (HRUN.out _) ?_)
              go_ret2
              rw [HRR.out]
              exact ⟨ret_num HOR.out, _, rfl, HB1.out⟩
          · have hk0I : ¬ 0 < (k : Int) := by omega
            have h9I : ((k : Int) == 9) = false := by rw [beq_eq_false_iff_ne]; omega
            clear hb9 hb0
            go_wp2_with (refine wpList_slice_ran (o := ⟨some 48, _, _, _, _, _⟩) rfl _ _ _ _ _ rfl rfl rfl rfl rfl (HRUN.out _) ?_)
            go_ret2
            rw [HRR.out]
            exact ⟨ret_num HOR.out, _, rfl, HB1.out⟩
        · have hsI : ¬ (x : Int) < 128 := by omega
          have hx0 : ((x : Int) == 0) = false := by rw [beq_eq_false_iff_ne]; omega
          have hk8 : ¬ k = 9 := fun h9 => by have := hb9 h9; omega
          have hk8I : ((k : Int) == 9) = false := by rw [beq_eq_false_iff_ne]; omega
          clear hb9 hb0
          by_cases hk0 : 0 < k
          all_goals
            go_wp2
            go_roundw
            case rel =>
              refine ⟨k + 1, m, by go_num, by rw [← HOR.out], by omega, by omega, HDB.out.2 (by omega), ?_, trivial⟩
              have := H1.out; rw [if_neg hsmall] at this; exact this
            case measure => simp [intOf]; omega
    · obtain rfl : k = len := by omega
      rw [List.drop_of_length_le (by rw [HL.out]; exact Nat.le_refl _), rdNum] at h1
      have H1 := Lib.hid h1
      clear h1
      go_wp2
      go_ret2
      obtain rfl := H1.out
      exact ⟨rfl, rfl⟩

end Go.Proofs.YtdikmlnpclklnaaGreatDoor.Wire

/-
  Items out of bytes by a row of open parts: plain definitions and facts.
-/
namespace Go.Proofs.YtdikmlnpclklnaaGreatDoor.Wire
open Go Go.Proofs.YtdikmlnpclklnaaGreatDoor.Law

theorem rdTop_fuel : ∀ (f f' c : Nat) (bs : List Nat) (acc : List Item), c ≤ 4096 → 4097 ≤ f + c → 4097 ≤ f' + c → rdTop f c bs acc = rdTop f' c bs acc := by
  intro f
  induction f with
  | zero => intro f' c bs acc hc h h'; omega
  | succ f ih =>
    intro f' c bs acc hc h h'
    obtain ⟨f', rfl⟩ : ∃ g, f' = g + 1 := ⟨f' - 1, by omega⟩
    rw [rdTop, rdTop]
    split
    · rfl
    · match hq : rdI 8 c bs with
      | .error e => rfl
      | .ok (x, c', bs') =>
        have := rdI_count 8 c bs x c' bs' hq
        exact ih f' c' bs' _ this.2.1 (by omega) (by omega)

/-- What comes of open parts: the innermost one's items and how many are to come, and those ahead of it. -/
def unw : List (List Item × Int) → List Item → Int → Nat → List Nat → Except Nat (List Item)
  | [], acc, _, c, bs => rdTop (4097 - c) c bs acc
  | (a, t) :: ps, acc, n, c, bs =>
    match rdL (rdI (8 - (ps.length + 1))) n.toNat c bs acc with
    | .error e => .error e
    | .ok (l, c', bs') => unw ps (a ++ [.mk 2 0 noT l]) (t - 1) c' bs'

theorem unw_done (acc : List Item) (n : Int) (c : Nat) (hc : c ≤ 4096) : unw [] acc n c [] = .ok acc := by
  rw [unw]
  obtain ⟨f, hf⟩ : ∃ f, 4097 - c = f + 1 := ⟨4096 - c, by omega⟩
  rw [hf, rdTop, if_pos rfl]

theorem unw_close (a : List Item) (t : Int) (ps : List (List Item × Int)) (acc : List Item) (c : Nat) (bs : List Nat) : unw ((a, t) :: ps) acc 0 c bs = unw ps (a ++ [.mk 2 0 noT acc]) (t - 1) c bs := by
  rw [unw]
  rfl

/-- Something is to come yet. -/
def More (ps : List (List Item × Int)) (n : Int) (bs : List Nat) : Prop := (ps = [] → bs ≠ []) ∧ (ps ≠ [] → 0 < n)

theorem unw_step (ps : List (List Item × Int)) (acc : List Item) (n : Int) (c : Nat) (bs : List Nat) (hm : More ps n bs) (hc : c ≤ 4096) (hd : ps.length ≤ 8) : unw ps acc n c bs =
    match rdI (8 - ps.length) c bs with
    | .error e => .error e
    | .ok (x, c', bs') => unw ps (acc ++ [x]) (n - 1) c' bs' := by
  cases ps with
  | nil =>
    obtain ⟨f, hf⟩ : ∃ f, 4097 - c = f + 1 := ⟨4096 - c, by omega⟩
    rw [unw, hf, rdTop, if_neg (hm.1 rfl)]
    simp only [List.length_nil, Nat.sub_zero]
    match hq : rdI 8 c bs with
    | .error e => rfl
    | .ok (x, c', bs') =>
      have := rdI_count 8 c bs x c' bs' hq
      simp only [unw]
      exact rdTop_fuel _ _ _ _ _ this.2.1 (by omega) (by omega)
  | cons p ps =>
    obtain ⟨a, t⟩ := p
    have h0 := hm.2 (by simp)
    obtain ⟨m, hm'⟩ : ∃ m : Nat, n.toNat = m + 1 := ⟨n.toNat - 1, by omega⟩
    have hm1 : (n - 1).toNat = m := by omega
    simp only [unw, hm', rdL, List.length_cons, hm1]
    match hq : rdI (8 - (ps.length + 1)) c bs with
    | .error e => rfl
    | .ok (x, c', bs') => rfl

theorem unw_long (ps : List (List Item × Int)) (acc : List Item) (n : Int) (c : Nat) (bs : List Nat) (hm : More ps n bs) (hc : c ≤ 4096) (hd : ps.length ≤ 8) (h : c = 4096 ∨ ps.length = 8) : unw ps acc n c bs = .error 2 := by
  rw [unw_step ps acc n c bs hm hc hd]
  rcases h with rfl | h
  · obtain ⟨b, hb⟩ | hb : (∃ b, 8 - ps.length = b + 1) ∨ 8 - ps.length = 0 := by
      rcases Nat.eq_zero_or_pos (8 - ps.length) with h | h
      · exact .inr h
      · exact .inl ⟨8 - ps.length - 1, by omega⟩
    · rw [hb, rdI, if_pos (by omega)]
    · rw [hb, rdI]
  · rw [h, Nat.sub_self, rdI]

theorem unw_head (ps : List (List Item × Int)) (acc : List Item) (n : Int) (c : Nat) (bs : List Nat) (hm : More ps n bs) (hc : c < 4096) (hd : ps.length < 8) {e : Nat} (h : rdHead bs = .error e) : unw ps acc n c bs = .error e := by
  rw [unw_step ps acc n c bs hm (by omega) (by omega)]
  obtain ⟨b, hb⟩ : ∃ b, 8 - ps.length = b + 1 := ⟨8 - ps.length - 1, by omega⟩
  rw [hb, rdI, if_neg (by omega), h]

theorem unw_int (ps : List (List Item × Int)) (acc : List Item) (n : Int) (c : Nat) (bs : List Nat) (hm : More ps n bs) (hc : c < 4096) (hd : ps.length < 8) {m : Nat} {r : List Nat} (h : rdHead bs = .ok (0, m, r)) :
    unw ps acc n c bs = unw ps (acc ++ [.mk 0 (unzig m) noT []]) (n - 1) (c + 1) r := by
  rw [unw_step ps acc n c bs hm (by omega) (by omega)]
  obtain ⟨b, hb⟩ : ∃ b, 8 - ps.length = b + 1 := ⟨8 - ps.length - 1, by omega⟩
  rw [hb, rdI, if_neg (by omega), h]
  rfl

theorem unw_end (ps : List (List Item × Int)) (acc : List Item) (n : Int) (c : Nat) (bs : List Nat) (hm : More ps n bs) (hc : c < 4096) (hd : ps.length < 8) {m : Nat} {r : List Nat} (h : rdHead bs = .ok (1, m, r)) (hr : r.length < m) :
    unw ps acc n c bs = .error 5 := by
  rw [unw_step ps acc n c bs hm (by omega) (by omega)]
  obtain ⟨b, hb⟩ : ∃ b, 8 - ps.length = b + 1 := ⟨8 - ps.length - 1, by omega⟩
  rw [hb, rdI, if_neg (by omega), h]
  simp [hr]

theorem unw_text (ps : List (List Item × Int)) (acc : List Item) (n : Int) (c : Nat) (bs : List Nat) (hm : More ps n bs) (hc : c < 4096) (hd : ps.length < 8) {m : Nat} {r : List Nat} (h : rdHead bs = .ok (1, m, r)) (hr : ¬ r.length < m) :
    unw ps acc n c bs = unw ps (acc ++ [.mk 1 0 (str (r.take m)) []]) (n - 1) (c + 1) (r.drop m) := by
  rw [unw_step ps acc n c bs hm (by omega) (by omega)]
  obtain ⟨b, hb⟩ : ∃ b, 8 - ps.length = b + 1 := ⟨8 - ps.length - 1, by omega⟩
  rw [hb, rdI, if_neg (by omega), h]
  simp [hr]

theorem unw_list (ps : List (List Item × Int)) (acc : List Item) (n : Int) (c : Nat) (bs : List Nat) (hm : More ps n bs) (hc : c < 4096) (hd : ps.length < 8) {m : Nat} {r : List Nat} (h : rdHead bs = .ok (2, m, r)) :
    unw ps acc n c bs = unw ((acc, n) :: ps) [] m (c + 1) r := by
  rw [unw_step ps acc n c bs hm (by omega) (by omega), unw]
  obtain ⟨b, hb⟩ : ∃ b, 8 - ps.length = b + 1 := ⟨8 - ps.length - 1, by omega⟩
  have hb2 : 8 - (ps.length + 1) = b := by omega
  rw [hb, hb2, rdI, if_neg (by omega), h]
  simp only [Int.toNat_natCast, show ¬ ((2 : Nat) = 0) by omega, show ¬ ((2 : Nat) = 1) by omega, if_false]
  match hq : rdL (rdI b) m (c + 1) r [] with
  | .error e => rfl
  | .ok (l, c', bs') => rfl

/-- What a head is. -/
theorem head_is {bs : List Nat} {k m : Nat} {r : List Nat} (h : rdHead bs = .ok (k, m, r)) : k ≤ 2 ∧ (k ≠ 0 → m ≤ 9223372036854775807) ∧ m < 18446744073709551616 ∧ r.length < bs.length := by
  match bs, h with
  | [], h => simp [rdHead] at h
  | q :: bs, h =>
    rw [rdHead] at h
    split at h
    · cases h
    · match hz : rdNum 0 0 bs with
      | .error e => rw [hz] at h; cases h
      | .ok (m', r2) =>
        rw [hz] at h
        simp only at h
        split at h
        · cases h
        · rename_i h1 h2
          simp only [Except.ok.injEq, Prod.mk.injEq] at h
          obtain ⟨rfl, rfl, rfl⟩ := h
          have h3 := (rdNum_length bs 0 0 _ _ hz).1
          have h4 := rdNum_lt bs 0 0 _ _ (by omega) (by decide) hz
          refine ⟨by omega, fun hq => ?_, h4, by simp; omega⟩
          rcases Nat.lt_or_ge 9223372036854775807 m' with h5 | h5
          · exact absurd ⟨hq, h5⟩ h2
          · exact h5

end Go.Proofs.YtdikmlnpclklnaaGreatDoor.Wire

/-
  The program's own reading of a head and of a text.
-/
namespace Go.Proofs.YtdikmlnpclklnaaGreatDoor.Wire
open Go Go.RowKit Go.Proofs.YtdikmlnpclklnaaGreatDoor.Law

set_option maxRecDepth 100000 in
set_option maxHeartbeats 2000000 in
theorem signed_calls (u : Nat) (hu : u < 18446744073709551616) (w : World) :
    Calls Tryz.prog 170 #[.int .u64 (u : Nat)] w fun e W => e = .returned (.int .i64 (unzig u)) ∧ w = W := by
  have h1 := Lib.u64_and1 (u : Int) (by omega) (by omega)
  by_cases hodd : u % 2 = 1
  · have hv : wrap64 (bits .xor .u64 IntKind.u64.max ((u : Int) / 2)) = unzig u := by
      unfold unzig
      rw [if_pos hodd, show (u : Int) / 2 = ((u / 2 : Nat) : Int) by omega, show IntKind.u64.max = ((18446744073709551615 : Nat) : Int) from rfl, u64_xor_nat _ _ (by omega) (by omega)]
      have := Lib.xor_ones64 (u / 2) (by omega)
      rw [show 18446744073709551615 = 2 ^ 64 - 1 by decide, this]
      unfold wrap64
      omega
    have ho : (u : Int) % 2 = 1 := by omega
    have HV := Lib.hid hv
    clear hv
    go_enter Tryz.func170, Tryz.ntmps170
    go_wp2
    go_ret
    exact ⟨ret_int HV.out, rfl⟩
  · have hv : unzig u = ((u / 2 : Nat) : Int) := by unfold unzig; rw [if_neg hodd]
    have ho : (u : Int) % 2 = 0 := by omega
    rw [hv]
    clear hv
    go_enter Tryz.func170, Tryz.ntmps170
    go_wp2
    go_ret
    exact ⟨ret_int (by omega), rfl⟩

/-- What head answers. -/
def HeadRead (w : World) (rb n₀ : Nat) : Except Nat (Nat × Nat × List Nat) → Ending → World → Prop
  | .ok (k, m, r), e, W => e = .returned (.tuple #[.int .i64 (k : Nat), .int .u64 (m : Nat), .int .i64 0]) ∧ ∃ B, Rdr W rb B ∧ Bytes n₀ W B r ∧ w.grownBy W (some rb) ∧ w.heap.size = W.heap.size
  | .error k, e, W => e = .returned (.tuple #[.int .i64 0, .int .u64 0, .int .i64 (k : Nat)]) ∧ k ≠ 0 ∧ w.grownBy W (some rb)

theorem byte_kind (x : Nat) : ((x : Nat) : Int) = 0 ∨ ((x : Nat) : Int) = 1 ∨ ((x : Nat) : Int) = 2 ∨ 2 < x := by omega

set_option maxRecDepth 100000 in
set_option maxHeartbeats 4000000 in
theorem head_calls (rb n₀ : Nat) (B : Value) (bs : List Nat) (hlen0 : bs.length ≤ 65536) (w : World) (hR : Rdr w rb B) (hI : Bytes n₀ w B bs) (hn : n₀ ≤ rb) :
    Calls Tryz.prog 169 #[.pointer (some ⟨rb, 0, none⟩)] w (HeadRead w rb n₀ (rdHead bs)) := by
  obtain ⟨A, cap, rfl⟩ := hI.form
  obtain ⟨len, hlen⟩ : ∃ len, bs.length = len := ⟨_, rfl⟩
  obtain ⟨R, hRR⟩ : ∃ R, rdHead bs = R := ⟨_, rfl⟩
  rw [hRR]
  rw [hlen] at hI hlen0 hR
  obtain ⟨r0, z0⟩ := hR.cells
  have HR := Lib.hid hR
  have HI := Lib.hid hI
  have HL := Lib.hid hlen
  clear hR hI hlen
  match bs, hRR with
  | [], hRR =>
    obtain rfl : len = 0 := by simpa using HL.out.symm
    have HRR := Lib.hid hRR
    clear hRR
    go_enter Tryz.func169, Tryz.ntmps169
    go_wp2_with fail
    go_ret3
    obtain rfl := HRR.out
    exact ⟨rfl, by decide, grown_refl _ _⟩
  | x :: bs, hRR =>
    have hl0 : ¬ (len : Int) = 0 := by have := HL.out; simp at this; omega
    have hlp : 0 < len := by have := HL.out; simp at this; omega
    obtain ⟨b, off, rfl, hb, hc⟩ := HI.out.cells hlp
    have hc0 := hc 0 hlp
    have hx256 : x < 256 := HI.out.lt x (by simp)
    rw [Nat.add_zero, show (x :: bs).getD 0 0 = x from rfl] at hc0
    rw [rdHead] at hRR
    clear hc
    have hne : ¬ b = rb := by omega
    have hlpI : 0 < (len : Int) := by omega
    by_cases hbig : 2 < x
    · rw [if_pos hbig] at hRR
      have HRR := Lib.hid hRR
      have k0 : ((x : Int) != 0) = true := by rw [bne_iff_ne]; omega
      have k1 : ((x : Int) != 1) = true := by rw [bne_iff_ne]; omega
      have k2 : ((x : Int) != 2) = true := by rw [bne_iff_ne]; omega
      clear hRR
      go_enter Tryz.func169, Tryz.ntmps169
      go_wp2_with fail
      go_ret3
      obtain rfl := HRR.out
      exact ⟨rfl, by decide, grown_refl _ _⟩
    · rw [if_neg hbig] at hRR
      obtain ⟨B1, hrun, hB1⟩ := run_behind HI.out .i64 (show 1 ≤ len by omega)
      have hrun1 : ∀ w', (Instr.sliceAt 29 (.slice (some ⟨b, off, none⟩) len cap) (some (.int .i64 1)) none none).run Tryz.prog w' = .ok B1 w' := fun w' => by simpa using hrun w'
      replace hB1 : Bytes n₀ w B1 bs := hB1
      have cN := num_calls rb n₀ B1 bs (by have := HL.out; simp at this; omega) (w.setCell ⟨rb, 0, none⟩ B1) (HR.out.set B1) (Bytes.below ((Below.refl n₀ w).setCell (p := ⟨rb, 0, none⟩) hn _) hB1)
      obtain ⟨RN, hRN⟩ : ∃ RN, rdNum 0 0 bs = RN := ⟨_, rfl⟩
      rw [hRN] at hRR cN
      obtain ⟨A1, cap1, rfl⟩ := hB1.form
      have HRUN := Lib.hid hrun1
      have HRR := Lib.hid hRR
      have HRN := Lib.hid hRN
      have HB1 := Lib.hid hB1
      have CN := Lib.hid cN
      have hG1 := Lib.hid (grown_set (i := 0) (grown_refl w (some rb)) (.slice A1 bs.length cap1))
      have hrd := Lib.hid (HR.out.set (.slice A1 bs.length cap1))
      clear hrun hrun1 hRR hRN hB1 cN
      have hcase : ((((x : Int) != 0) = false) ∧ x = 0) ∨ (((x : Int) != 0) = true ∧ (((x : Int) != 1) = false) ∧ x ≠ 0) ∨ (((x : Int) != 0) = true ∧ ((x : Int) != 1) = true ∧ (((x : Int) != 2) = false) ∧ x ≠ 0) := by
        rcases (show x = 0 ∨ x = 1 ∨ x = 2 by omega) with rfl | rfl | rfl <;> simp
      rcases hcase with ⟨k0, hx0⟩ | ⟨k0, k1, hx0⟩ | ⟨k0, k1, k2, hx0⟩
      all_goals
        have HX0 := Lib.hid hx0
        clear hx0
        go_enter Tryz.func169, Tryz.ntmps169
        go_wp2_with (refine wpList_slice_ran (o := ⟨some 36, _, _, _, _, _⟩) rfl _ _ _ _ _ rfl rfl rfl rfl rfl (HRUN.out _) ?_)
        refine CN.out.mono ?_
        clear CN
        rintro e W hN
        cases RN with
        | error k =>
          obtain ⟨rfl, rfl⟩ := hN
          have hkne : ¬ (k : Int) = 0 := by have := rdNum_err _ _ _ _ HRN.out; omega
          go_wp2_with fail
          go_ret3
          obtain rfl := HRR.out
          exact ⟨rfl, by omega, hG1.out⟩
        | ok q =>
          obtain ⟨m, r⟩ := q
          obtain ⟨rfl, B2, rfl, hB2⟩ := hN
          obtain ⟨A2, cap2, rfl⟩ := hB2.form
          have hfin : ∃ B, Rdr ((w.setCell ⟨rb, 0, none⟩ (.slice A1 bs.length cap1)).setCell ⟨rb, 0, none⟩ (.slice A2 r.length cap2)) rb B ∧ Bytes n₀ ((w.setCell ⟨rb, 0, none⟩ (.slice A1 bs.length cap1)).setCell ⟨rb, 0, none⟩ (.slice A2 r.length cap2)) B r ∧
              w.grownBy ((w.setCell ⟨rb, 0, none⟩ (.slice A1 bs.length cap1)).setCell ⟨rb, 0, none⟩ (.slice A2 r.length cap2)) (some rb) ∧ w.heap.size = ((w.setCell ⟨rb, 0, none⟩ (.slice A1 bs.length cap1)).setCell ⟨rb, 0, none⟩ (.slice A2 r.length cap2)).heap.size :=
            ⟨_, hrd.out.set _, Bytes.below ((Below.refl n₀ _).setCell (p := ⟨rb, 0, none⟩) hn _) hB2, grown_set (i := 0) hG1.out _, by simp [World.setCell]⟩
          have HFIN := Lib.hid hfin
          clear hB2 hfin
          by_cases hbn : 9223372036854775807 < m
          · have hbI : decide ((9223372036854775807 : Int) < (m : Int)) = true := by simp only [decide_eq_true_eq]; omega
            have HBN := Lib.hid hbn
            clear hbn
            go_wp2_with fail
            go_ret3
            first
            | (have hRR : R = .error 3 := by rw [← HRR.out]; simp [HX0.out, HBN.out]
               rw [hRR]
               obtain ⟨B, _, _, h3, _⟩ := HFIN.out
               exact ⟨rfl, by decide, h3⟩)
            | (have hRR : R = .ok (x, m, r) := by rw [← HRR.out]; simp [HX0.out]
               rw [hRR]
               exact ⟨rfl, HFIN.out⟩)
          · have hbI : decide ((9223372036854775807 : Int) < (m : Int)) = false := by simp only [decide_eq_false_iff_not]; omega
            have HBN := Lib.hid hbn
            clear hbn
            go_wp2_with fail
            go_ret3
            have hRR : R = .ok (x, m, r) := by rw [← HRR.out]; simp [HBN.out]
            rw [hRR]
            exact ⟨rfl, HFIN.out⟩

/-- What text answers. -/
def TextRead (w : World) (rb n₀ m : Nat) (bs : List Nat) (e : Ending) (W : World) : Prop :=
  e = .returned (.tuple #[.string (str (bs.take m)), .int .i64 0]) ∧ w.grownBy W (some rb) ∧ w.heap.size = W.heap.size ∧ ∃ B', Rdr W rb B' ∧ Bytes n₀ W B' (bs.drop m)

set_option maxRecDepth 100000 in
set_option maxHeartbeats 4000000 in
theorem text_short (rb n₀ m : Nat) (B : Value) (bs : List Nat) (hlen0 : bs.length ≤ 65536) (w : World) (hR : Rdr w rb B) (hI : Bytes n₀ w B bs) (hs : bs.length < m) :
    Calls Tryz.prog 171 #[.pointer (some ⟨rb, 0, none⟩), .int .u64 (m : Nat)] w fun e W => e = .returned (.tuple #[.string ⟨#[]⟩, .int .i64 5]) ∧ w = W := by
  obtain ⟨A, cap, rfl⟩ := hI.form
  obtain ⟨len, hlen⟩ : ∃ len, bs.length = len := ⟨_, rfl⟩
  rw [hlen] at hR hlen0 hs
  obtain ⟨r0, z0⟩ := hR.cells
  have hsI : (len : Int) < (m : Int) := by omega
  clear hI hR hlen hs
  go_enter Tryz.func171, Tryz.ntmps171
  go_wp2
  go_ret2
  exact ⟨rfl, rfl⟩

set_option maxRecDepth 100000 in
set_option maxHeartbeats 4000000 in
theorem text_long (rb n₀ m : Nat) (B : Value) (bs : List Nat) (hlen0 : bs.length ≤ 65536) (w : World) (hR : Rdr w rb B) (hI : Bytes n₀ w B bs) (hn : n₀ ≤ rb) (hs : m ≤ bs.length) :
    Calls Tryz.prog 171 #[.pointer (some ⟨rb, 0, none⟩), .int .u64 (m : Nat)] w (TextRead w rb n₀ m bs) := by
  obtain ⟨A, cap, rfl⟩ := hI.form
  obtain ⟨len, hlen⟩ : ∃ len, bs.length = len := ⟨_, rfl⟩
  rw [hlen] at hR hlen0 hs hI
  obtain ⟨r0, z0⟩ := hR.cells
  obtain ⟨B1, hrun, hB1⟩ := run_behind hI .u64 hs
  obtain ⟨A1, cap1, rfl⟩ := hB1.form
  obtain ⟨l1, hl1⟩ : ∃ l1, (bs.drop m).length = l1 := ⟨_, rfl⟩
  rw [hl1] at hrun hB1
  obtain ⟨B2, hrun2, hB2⟩ := run_ahead hI .u64 hs
  have c1 := fun w' (h : Bytes n₀ w' B2 (bs.take m)) => run_string_bytes (P := Tryz.prog) w' Tryz.underlying29 Tryz.underlying5 Tryz.underlying9 h
  have c2 := c1 w hB2
  obtain ⟨A2, cap2, rfl⟩ := hB2.form
  obtain ⟨l2, hl2⟩ : ∃ l2, (bs.take m).length = l2 := ⟨_, rfl⟩
  rw [hl2] at hrun2 c2
  have hsI : ¬ (len : Int) < (m : Int) := by omega
  have HRUN := Lib.hid hrun
  have HRUN2 := Lib.hid hrun2
  have HB1 := Lib.hid hB1
  have HR := Lib.hid hR
  clear hI hR hlen hs hrun hrun2 hB1 hB2 c1 hl1 hl2
  go_enter Tryz.func171, Tryz.ntmps171
  go_wp2_with (first
    | refine wpList_slice_ran (o := ⟨some 20, _, _, _, _, _⟩) rfl _ _ _ _ _ rfl rfl rfl rfl rfl (HRUN2.out _) ?_
    | refine wpList_slice_ran (o := ⟨some 28, _, _, _, _, _⟩) rfl _ _ _ _ _ rfl rfl rfl rfl rfl (HRUN.out _) ?_)
  go_ret2
  exact ⟨rfl, grown_set (i := 0) (grown_refl _ _) _, by simp [World.setCell], _, HR.out.set _, Bytes.below ((Below.refl n₀ _).setCell (p := ⟨rb, 0, none⟩) hn _) HB1.out⟩

end Go.Proofs.YtdikmlnpclklnaaGreatDoor.Wire

/-
  The document's own reading of a list.
-/
namespace Go.Proofs.YtdikmlnpclklnaaGreatDoor.Wire
open Go Go.RowKit Go.Proofs.YtdikmlnpclklnaaGreatDoor.Law

theorem rdI_err : ∀ (b c : Nat) (bs : List Nat) (k : Nat), rdI b c bs = .error k → k ≠ 0 := by
  intro b
  induction b with
  | zero => intro c bs k h; simp [rdI] at h; omega
  | succ b ih =>
    have hL : ∀ (n c : Nat) (bs : List Nat) (acc : List Item) (k : Nat), rdL (rdI b) n c bs acc = .error k → k ≠ 0 := by
      intro n
      induction n with
      | zero => intro c bs acc k h; simp [rdL] at h
      | succ n ihn =>
        intro c bs acc k h
        rw [rdL] at h
        match hq : rdI b c bs with
        | .error e => rw [hq] at h; simp only [Except.error.injEq] at h; subst h; exact ih c bs e hq
        | .ok (y, c2, r2) => rw [hq] at h; exact ihn c2 r2 _ k h
    intro c bs k h
    rw [rdI] at h
    split at h
    · simp only [Except.error.injEq] at h; omega
    · match hh : rdHead bs with
      | .error e =>
        rw [hh] at h
        simp only [Except.error.injEq] at h
        subst h
        match bs, hh with
        | [], hh => simp [rdHead] at hh; omega
        | q :: bs, hh =>
          rw [rdHead] at hh
          split at hh
          · simp only [Except.error.injEq] at hh; omega
          · match hz : rdNum 0 0 bs with
            | .error e' => rw [hz] at hh; simp only [Except.error.injEq] at hh; subst hh; exact rdNum_err _ _ _ _ hz
            | .ok (m, r2) =>
              rw [hz] at hh
              simp only at hh
              split at hh
              · simp only [Except.error.injEq] at hh; omega
              · cases hh
      | .ok (q, n, r1) =>
        rw [hh] at h
        simp only at h
        split at h
        · cases h
        · split at h
          · split at h
            · simp only [Except.error.injEq] at h; omega
            · cases h
          · match hq : rdL (rdI b) n (c + 1) r1 [] with
            | .error e => rw [hq] at h; simp only [Except.error.injEq] at h; subst h; exact hL _ _ _ _ _ hq
            | .ok (l, c2, r2) => rw [hq] at h; cases h

/-- A list out of its items. -/
def listOf : Except Nat (List Item × Nat × List Nat) → Except Nat (Item × Nat × List Nat)
  | .error e => .error e
  | .ok (l, c, r) => .ok (.mk 2 0 noT l, c, r)

abbrev listBox (u : Value) : Obj := .cells #[.int .i64 2, .int .i64 0, .string ⟨#[]⟩, u] 145

/-- What lies ahead of the k-th item of a list. -/
def LS (w : World) (rb n₀ b n : Nat) (R : Except Nat (List Item × Nat × List Nat)) (k : Nat) (W : World) : Prop :=
  ∃ c B bs acc u, rdL (rdI b) (n - k) c bs acc = R ∧ c ≤ 4096 ∧ acc.length ≤ c ∧ bs.length ≤ 65536 ∧ Rd W rb B c 0 ∧ Bytes n₀ W B bs ∧ w.grownBy W (some rb) ∧ W.heap[w.heap.size]? = some zeroBox ∧ W.heap[w.heap.size + 1]? = some (listBox u) ∧ Grow (w.heap.size + 2) W.heap.size W u acc

theorem Grow.own {lo hi : Nat} {W : World} {v : Value} {l : List Item} (h : Grow lo hi W v l) : ∀ b, v.ownBlock = some b → lo ≤ b ∧ b < hi := fun b hb => by
  obtain ⟨_, h0, val, h1, _⟩ := h
  exact ⟨(h1.1.lt b hb).1, h0 b hb⟩

/-- An item more. -/
theorem list_more {w W W2 : World} {rb n₀ b n k c c' : Nat} {B' u u' : Value} {bs' : List Nat} {acc : List Item} {x : Item} {R : Except Nat (List Item × Nat × List Nat)} (hrb : rb < w.heap.size) (hn : n₀ ≤ rb)
    (hR : rdL (rdI b) (n - (k + 1)) c' bs' (acc ++ [x]) = R) (hc : c < c') (hc' : c' ≤ 4096) (hacc : acc.length ≤ c) (hbs : bs'.length ≤ 65536) (hG : w.grownBy W (some rb)) (hz : W.heap[w.heap.size]? = some zeroBox) (hl : W.heap[w.heap.size + 1]? = some (listBox u))
    (hGr : Grow (w.heap.size + 2) W.heap.size W u acc) (hG2 : W.grownBy W2 (some rb)) (hRd : Rd W2 rb B' c' 0) (hBy : Bytes n₀ W2 B' bs') (hu : Items (fun b => W.heap.size ≤ b ∧ b < W2.heap.size) W2 u' x.kids) (ty : TypeId) (o : Obj) :
    ∃ v' W', (Builtin.append_ #[143, 143] ty #[u, .slice (some ⟨W2.heap.size + 1, 0, none⟩) 1 1]).run Tryz.prog ((W2.alloc o).alloc (.cells #[.int .i64 x.kind, .int .i64 x.n, .string x.s, u'] 145)) = .ok v' W' ∧
      W'.frozen? ⟨w.heap.size + 1, 3, none⟩ = false ∧ (∃ A l cap, v' = .slice A l cap) ∧ W'.cell? ⟨w.heap.size + 1, 3, none⟩ = some u ∧ LS w rb n₀ b n R (k + 1) (W'.setCell ⟨w.heap.size + 1, 3, none⟩ v') := by
  have hws := hG.size
  have hlt1 : w.heap.size + 1 < W.heap.size := lt_of_some hl
  have hW2 := hG2.size
  have hl2 : W2.heap[w.heap.size + 1]? = some (listBox u) := (hG2.block _ hlt1 (by simp; omega)).trans hl
  have hz2 : W2.heap[w.heap.size]? = some zeroBox := (hG2.block _ (by omega) (by simp; omega)).trans hz
  have hlt2 := lt_of_some hl2
  have hGr2 : Grow (w.heap.size + 2) W.heap.size (W2.alloc o) u acc := hGr.keep (fun b h1 h2 => (Below.heap_alloc _ _ _ (by omega)).trans (hG2.block b h2 (by simp; omega))) (Nat.le_refl _) (by simp; omega)
  have hgo := hGr.own
  obtain ⟨v', W', hrun, hGr', hG', hor⟩ := hGr2.append (by omega) x u' (hu.keep (fun b hb => Below.heap_alloc _ _ _ hb.2) (fun b hb => ⟨by omega, by simp; omega, fun e => by have := (hgo b e).2; omega⟩)) ty (by omega)
  have hsz : W2.heap.size + 1 ≤ W'.heap.size := by have := hG'.size; simpa using this
  have hkeep : ∀ j, j < w.heap.size + 2 → W'.heap[j]? = W2.heap[j]? := fun j hj => (hG'.block j (by simp; omega) (fun e => by have := (hgo j e.symm).1; omega)).trans (Below.heap_alloc _ _ _ (by omega))
  have hl3 : W'.heap[w.heap.size + 1]? = some (listBox u) := (hkeep _ (by omega)).trans hl2
  refine ⟨v', W', by simpa using hrun, by simp [World.frozen?, hl3], (by obtain ⟨A, cap, h, _⟩ := hGr'.form; exact ⟨A, _, cap, h⟩), by simp [World.cell?, hl3], c', B', bs', acc ++ [x], v', hR, hc', by simp; omega, hbs, ?_, ?_, ?_, ?_, ?_, ?_⟩
  · exact rd_put (show Rd W' rb B' c' 0 from (hkeep rb (by omega)).trans hRd) (by omega) _
  · refine by_put (Bytes.below ?_ hBy) (by omega) _
    have e2 : Below n₀ W2 (W2.alloc o) := (Below.refl _ _).alloc (by omega) _
    exact e2.grown hG' (by simp; omega) (fun k hk => by have := (hgo k hk).1; omega)
  · refine grown_put ⟨?_, ?_, ?_, by omega, fun j hj hne => ?_⟩ (by omega) _
    · exact hG'.os.trans (hG2.os.trans hG.os)
    · exact hG'.tape.trans (hG2.tape.trans hG.tape)
    · exact hG'.output.trans (hG2.output.trans hG.output)
    · exact (hkeep j (by omega)).trans ((hG2.block j (by omega) hne).trans (hG.block j hj hne))
  · rw [Below.heap_setCell _ _ _ _ (by show w.heap.size ≠ w.heap.size + 1; omega)]
    exact (hkeep _ (by omega)).trans hz2
  · simp [World.setCell, Array.getElem?_modify, hl3]
  · exact hGr'.keep (fun b h1 _ => Below.heap_setCell _ _ _ _ (by show b ≠ w.heap.size + 1; omega)) (by simp [World.setCell]) (Nat.le_refl _)

set_option maxRecDepth 100000 in
set_option maxHeartbeats 8000000 in
theorem reflist_calls (b d rb n₀ c n : Nat) (B : Value) (r r' : List Nat) (w : World) (hd : d ≤ 8) (hlen : r.length + 1 ≤ 65536) (hc : c + 1 ≤ 4096) (hR : Rd w rb B c 0) (hI : Bytes n₀ w B (2 :: r)) (hn : n₀ ≤ rb)
    (hRN : rdNum 0 0 r = .ok (n, r')) (h63 : n ≤ 9223372036854775807)
    (ih : ∀ c' B' bs' W, bs'.length ≤ 65536 → c' ≤ 4096 → Rd W rb B' c' 0 → Bytes n₀ W B' bs' → Calls Tryz.prog 121 #[.pointer (some ⟨rb, 0, none⟩), .int .i64 ((d : Int) + 1)] W (ItemRead W rb n₀ (rdI b c' bs'))) :
    Calls Tryz.prog 121 #[.pointer (some ⟨rb, 0, none⟩), .int .i64 (d : Nat)] w (ItemRead w rb n₀ (listOf (rdL (rdI b) n (c + 1) r' []))) := by
  have IH := Lib.hid ih
  have HN63 := Lib.hid h63
  obtain ⟨R, hRR⟩ : ∃ R, rdL (rdI b) n (c + 1) r' [] = R := ⟨_, rfl⟩
  rw [hRR]
  have HRR := Lib.hid hRR
  clear ih h63 hRR
  obtain ⟨r0, r1, r2, z0, z1, z2⟩ := hR.cells
  have hrb := lt_of_some hR
  have hne : ¬ rb = w.heap.size := by omega
  have hne2 : ¬ rb = w.heap.size + 1 := by omega
  obtain ⟨A, cap, rfl⟩ := hI.form
  obtain ⟨len, hlen0⟩ : ∃ len, (2 :: r).length = len := ⟨_, rfl⟩
  have hcap := hI.capOk
  rw [hlen0] at hI hR hcap r0
  have hl1 : r.length + 1 = len := by simpa using hlen0
  have HR := Lib.hid hR
  have HI := Lib.hid hI
  clear hR hI hlen0
  have hdI : ¬ 8 < (d : Int) := by omega
  have hbI : ¬ 4096 < (c : Int) + 1 := by omega
  obtain ⟨bk, off, rfl, hbk, hcl⟩ := HI.out.cells (by omega)
  have hc0 := hcl 0 (by omega)
  rw [Nat.add_zero, show (2 :: r).getD 0 0 = 2 from rfl] at hc0
  have hlI : ¬ (len : Int) = 0 := by omega
  have hlI2 : 0 < (len : Int) := by omega
  have hneb : ¬ bk = rb := by omega
  have hcX : ∀ (v : Value) (o : Obj), ((w.setCell ⟨rb, 1, none⟩ v).alloc o).cell? ⟨bk, off, none⟩ = some (.int .u8 2) := fun v o => by
    have h1 : (w.setCell ⟨rb, 1, none⟩ v).cell? ⟨bk, off, none⟩ = some (.int .u8 2) := (World.cell?_of_block (a := ⟨bk, off, none⟩) (Below.heap_setCell _ _ _ _ hneb)).trans hc0
    exact (World.cell?_of_block (a := ⟨bk, off, none⟩) (Below.heap_alloc _ _ _ (block_lt_cell h1))).trans h1
  clear hcl
  obtain ⟨B1, hrun, hB1⟩ := run_behind HI.out .i64 (show 1 ≤ len by omega)
  have hrun1 : ∀ w', (Instr.sliceAt 29 (.slice (some ⟨bk, off, none⟩) len cap) (some (.int .i64 1)) none none).run Tryz.prog w' = .ok B1 w' := fun w' => by simpa using hrun w'
  replace hB1 : Bytes n₀ w B1 r := hB1
  obtain ⟨A1, cap1, rfl⟩ := hB1.form
  obtain ⟨lr, hlr⟩ : ∃ lr, r.length = lr := ⟨_, rfl⟩
  rw [hlr] at hB1 hrun1
  have HRUN := Lib.hid hrun1
  have HW5 := Lib.hid (fun o => read1 HR.out hn hB1 (v := .int .i64 ((c : Int) + 1)) rfl o)
  have HLR := Lib.hid hlr
  have HRN := Lib.hid hRN
  clear hrun hrun1 hB1 hlr hRN
  have hnn1 : ¬ w.heap.size = rb := by omega
  go_enter Tryz.func121, Tryz.ntmps121
  go_wp2_with (refine wpList_slice_ran (o := ⟨some 59, _, _, _, _, _⟩) rfl _ _ _ _ _ rfl rfl rfl rfl rfl (HRUN.out _) ?_)
  obtain ⟨g1, g2, g3, g4, g5, g6⟩ := HW5.out (.cells #[.int .i64 2, .int .i64 0, .string ⟨#[]⟩, .slice none 0 0] 145)
  have cN := refnumber_calls rb n₀ (c + 1) (.slice A1 lr cap1) r (by omega) _ g1 g2 hn
  rw [HRN.out] at cN
  have key : ∀ (W2 : World), ((((w.setCell ⟨rb, 1, none⟩ (.int .i64 ((c : Int) + 1))).setCell ⟨rb, 0, none⟩ (.slice A1 lr cap1)).alloc zeroBox).alloc (.cells #[.int .i64 2, .int .i64 0, .string ⟨#[]⟩, .slice none 0 0] 145)).grownBy W2 (some rb) →
      W2.heap[w.heap.size]? = some zeroBox ∧ W2.heap[w.heap.size + 1]? = some (.cells #[.int .i64 2, .int .i64 0, .string ⟨#[]⟩, .slice none 0 0] 145) ∧ w.grownBy W2 (some rb) ∧ w.heap.size + 2 ≤ W2.heap.size := fun W2 hG =>
    ⟨(hG.block _ (by rw [g6]; omega) (by simp; omega)).trans g3, (hG.block _ (by rw [g6]; omega) (by simp; omega)).trans g4, g5.trans hG, by have := hG.size; omega⟩
  have KEY := Lib.hid key
  clear key g1 g2 g3 g4 g5 g6 hcX hc0 r0 r1 r2 z0 z1 z2
  refine cN.mono ?_
  clear cN
  rintro e W2 ⟨rfl, hG, B2, hR2, hI2⟩
  obtain ⟨k1, k2, k3, k4⟩ := KEY.out W2 hG
  obtain ⟨q0, q1, q2, q3, p0, p1, p2, p3⟩ := box4 k1
  obtain ⟨i0, i1, i2, i3, j0, j1, j2, j3⟩ := box4 k2
  have hrl : r'.length ≤ 65536 := by have := (rdNum_length r 0 0 n r' HRN.out).1; omega
  obtain ⟨A2, cap2, rfl⟩ := hI2.form
  obtain ⟨l2, hl2⟩ : ∃ l2, r'.length = l2 := ⟨_, rfl⟩
  rw [hl2] at hI2 hR2 hrl
  obtain ⟨r0, r1, r2, z0, z1, z2⟩ := hR2.cells
  have hhne : ¬ w.heap.size + 1 = w.heap.size := by omega
  have hhne2 : ¬ w.heap.size = w.heap.size + 1 := by omega
  have hrne2 : ¬ w.heap.size + 1 = rb := by omega
  have HR2 := Lib.hid hR2
  have HI2 := Lib.hid hI2
  have K3 := Lib.hid k3
  have K2 := Lib.hid k2
  have K2b' := Lib.hid k1
  have HL2 := Lib.hid hl2
  clear hG hR2 hI2 KEY k2 k1 k3 hl2 HRUN HW5 HRN

  have hn63 := HN63.out
  have hb63 : decide ((9223372036854775807 : Int) < (n : Int)) = false := by simp only [decide_eq_false_iff_not]; omega
  have hd8 : (d : Int) ≤ 8 := by omega
  have hstart : LS w rb n₀ b n R 0 W2 := by
    have hll := HL2.out
    have hRR := HRR.out
    exact ⟨c + 1, _, r', [], .slice none 0 0, by simpa using hRR, by omega, by simp, by omega, HR2.out, HI2.out, K3.out, K2b'.out, K2.out, Grow.nil _ _ _ (Nat.le_refl _)⟩
  have HSTART := Lib.hid hstart
  clear hstart HRR hn63 q0 q1 q2 q3 p0 p1 p2 p3
  go_wp2_with fail
  trace "LOOP"
  go_loopw [7] (fun i wr => ∃ k : Nat, i = .int .u64 k ∧ k ≤ n ∧ LS w rb n₀ b n R k wr) (fun i _ => n - (intOf i).toNat)
  case atStart => exact ⟨0, rfl, Nat.zero_le _, HSTART.out⟩
  case round =>
    obtain ⟨k, rfl, hk, hLS⟩ := hrel
    have hwk : wr.heap[w.heap.size]? = some zeroBox ∧ rb < wr.heap.size ∧ w.heap.size + 1 < wr.heap.size := by
      obtain ⟨c1, B1, bs1, acc, u, h1, h2, h3, h4, h5, h6, h7, h8, h9, h10⟩ := hLS
      exact ⟨h8, lt_of_some h5, lt_of_some h9⟩
    by_cases hlt : k < n
    · obtain ⟨c1, B1, bs1, acc, u, h1, h2, h3, h4, h5, h6, h7, h8, h9, h10⟩ := hLS
      have hgt := hwk.2
      clear hwk
      obtain ⟨Au, cu, rfl, _⟩ := h10.form
      obtain ⟨lu, hlu⟩ : ∃ lu, acc.length = lu := ⟨_, rfl⟩
      rw [hlu] at h9 h10
      rw [show n - k = (n - (k + 1)) + 1 by omega, rdL] at h1
      have cI := IH.out c1 B1 bs1 wr h4 h2 h5 h6
      obtain ⟨RI, hRI⟩ : ∃ RI, rdI b c1 bs1 = RI := ⟨_, rfl⟩
      rw [hRI] at cI h1
      have H1 := Lib.hid h1
      have HRI := Lib.hid hRI
      have H2 := Lib.hid h2
      have H3 := Lib.hid h3
      have H4 := Lib.hid h4
      have H7 := Lib.hid h7
      have H8 := Lib.hid h8
      have H9 := Lib.hid h9
      have H10 := Lib.hid h10
      have HCI := Lib.hid cI
      clear h1 hRI h2 h3 h4 h5 h6 h7 h8 h9 h10 cI hlu
      go_wp2_with fail
      refine HCI.out.mono ?_
      clear HCI
      rintro e w2 hN
      cases RI with
      | error k' =>
        obtain ⟨B', c', rfl, hG2, hRd2⟩ := hN
        have hR0 : R = .error k' := H1.out.symm
        have hk0 := rdI_err _ _ _ _ HRI.out
        have hkI : ((k' : Int) == 0) = false := by simp; omega
        have hkI2 : ¬ (k' : Int) = 0 := by omega
        have hsz2 := hG2.size
        have hz2 : w2.heap[w.heap.size]? = some zeroBox := (hG2.block _ (by omega) (by simp; omega)).trans H8.out
        have hq : ∀ o, (w2.alloc o).heap[w.heap.size]? = some zeroBox := fun o => (Below.heap_alloc _ _ _ (lt_of_some hz2)).trans hz2
        have hrd : ∀ o, Rd (w2.alloc o) rb B' c' k' := fun o => hRd2.below ((Below.refl _ _).alloc (Nat.le_refl _) _)
        have q0 := fun o => (box4 (hq o)).1
        have q1 := fun o => (box4 (hq o)).2.1
        have q2 := fun o => (box4 (hq o)).2.2.1
        have q3 := fun o => (box4 (hq o)).2.2.2.1
        have p0 := fun o => (box4 (hq o)).2.2.2.2.1
        have p1 := fun o => (box4 (hq o)).2.2.2.2.2.1
        have p2 := fun o => (box4 (hq o)).2.2.2.2.2.2.1
        have p3 := fun o => (box4 (hq o)).2.2.2.2.2.2.2
        have rr := fun o => (hrd o).cells.2.2.1
        have HRD := Lib.hid hrd
        have HG := Lib.hid (H7.out.trans hG2)
        have HR0 := Lib.hid hR0
        clear hq hrd hG2 hRd2 hR0 H1 HRI H8 H9 H10 hz2
        go_wp2_with fail
        trace "ERR"
        refine bodyPost_ret (v := zeroItem) (by simp [results, Tryz.results121, go_sem, q0, q1, q2, q3]) rfl ?_
        rw [HR0.out]
        exact ⟨B', c', rfl, grown_put4 (grown_alloc HG.out _) (Nat.le_refl _) _ _ _ _, rd_put4 (HRD.out _) (by omega) _ _ _ _⟩
      | ok q =>
        obtain ⟨x, c', bs'⟩ := q
        obtain ⟨u', B', rfl, hG2, hRd2, hBy2, hIt2⟩ := hN
        obtain ⟨Ax, cx, rfl, _⟩ := hIt2.form
        obtain ⟨lx, hlx⟩ : ∃ lx, x.kids.length = lx := ⟨_, rfl⟩
        rw [hlx] at hIt2 ⊢
        have hcnt := rdI_count _ _ _ _ _ _ HRI.out
        have hsz2 := hG2.size
        obtain ⟨v', W', hrun, hf, ⟨Av, lv, cv, rfl⟩, hcl, hLS'⟩ := list_more (by omega) hn H1.out hcnt.1 hcnt.2.1 H3.out (Nat.le_trans hcnt.2.2 H4.out) H7.out H8.out H9.out H10.out hG2 hRd2 hBy2 hIt2 143 (.cells #[.int .i64 x.kind, .int .i64 x.n, .string x.s, .slice Ax lx cx] 145)
        have hl2 : w2.heap[w.heap.size + 1]? = some (listBox (.slice Au lu cu)) := (hG2.block _ (by omega) (by simp; omega)).trans H9.out
        have hq : ∀ o, (w2.alloc o).heap[w.heap.size + 1]? = some (listBox (.slice Au lu cu)) := fun o => (Below.heap_alloc _ _ _ (lt_of_some hl2)).trans hl2
        have hrd : ∀ o, Rd (w2.alloc o) rb B' c' 0 := fun o => hRd2.below ((Below.refl _ _).alloc (Nat.le_refl _) _)
        have q3 := fun o => (box4 (hq o)).2.2.2.1
        have rr := fun o => (hrd o).cells.2.2.1
        have HRUN := Lib.hid hrun
        have HLS := Lib.hid hLS'
        have hkn : IntKind.u64.wrap ((k : Int) + 1) = ((k + 1 : Nat) : Int) := by rw [IntKind.wrap_u64]; have := HN63.out; omega
        have HKN := Lib.hid hkn
        clear hq hrd hG2 hRd2 hBy2 hIt2 H1 HRI H7 H8 H9 H10 hrun hLS' hkn hl2 hlx
        dsimp only [aggOf]
        go_wp2_with (refine wpList_append_ran (o := ⟨some 144, _, _, _, _, _⟩) rfl _ _ _ rfl rfl rfl HRUN.out ?_)
        trace "APP"
        go_roundw
        case rel => exact ⟨k + 1, by rw [HKN.out], by omega, HLS.out⟩
        case measure => simp [intOf, HKN.out]; omega
    · obtain rfl : k = n := by omega
      obtain ⟨c1, B1, bs1, acc, u, h1, h2, h3, h4, h5, h6, h7, h8, h9, h10⟩ := hLS
      obtain ⟨q0, q1, q2, q3, p0, p1, p2, p3⟩ := box4 h8
      obtain ⟨Au, cu, rfl, _⟩ := h10.form
      obtain ⟨lu, hlu⟩ : ∃ lu, acc.length = lu := ⟨_, rfl⟩
      rw [hlu] at h9 h10
      obtain ⟨i0, i1, i2, i3, j0, j1, j2, j3⟩ := box4 h9
      have hRR : R = .ok (acc, c1, bs1) := by rw [← h1, Nat.sub_self, rdL]
      have HRR := Lib.hid hRR
      have H5 := Lib.hid h5
      have H6 := Lib.hid h6
      have H7 := Lib.hid h7
      have H10 := Lib.hid h10
      have hgt := hwk.2
      clear hRR h1 h2 h3 h4 h5 h6 h7 h8 h9 h10 hwk hlu
      go_wp2_with fail
      trace "END"
      refine bodyPost_ret (v := aggOf (.mk 2 0 noT acc) (.slice Au lu cu)) (by simp [aggOf, noT, Item.kind, Item.n, Item.s, results, Tryz.results121, go_sem, q0, q1, q2, q3]) rfl ?_
      rw [HRR.out]
      refine ⟨_, B1, rfl, grown_put4 H7.out (Nat.le_refl _) _ _ _ _, rd_put4 H5.out (by omega) _ _ _ _, by_put4 H6.out (by omega) _ _ _ _, ?_⟩
      refine H10.out.items.keep (fun b hb => ?_) (fun b hb => ⟨by omega, by simp [World.setCell]; omega⟩)
      rw [Below.heap_setCell _ _ _ _ (by show b ≠ w.heap.size; omega), Below.heap_setCell _ _ _ _ (by show b ≠ w.heap.size; omega), Below.heap_setCell _ _ _ _ (by show b ≠ w.heap.size; omega), Below.heap_setCell _ _ _ _ (by show b ≠ w.heap.size; omega)]

end Go.Proofs.YtdikmlnpclklnaaGreatDoor.Wire

/-
  The parts that are open, in their block; an item is put behind a part's items.
-/
namespace Go.Proofs.YtdikmlnpclklnaaGreatDoor.Wire
open Go Go.RowKit Go.Proofs.YtdikmlnpclklnaaGreatDoor.Law

/-- The block of the parts: 18 cells. -/
def PB (W : World) (pb : Nat) (f : Nat → Value) : Prop := ∀ i, i < 18 → W.cell? ⟨pb, i, none⟩ = some (f i) ∧ W.frozen? ⟨pb, i, none⟩ = false
theorem PB.keep {W W' : World} {pb : Nat} {f : Nat → Value} (h : PB W pb f) (hb : W'.heap[pb]? = W.heap[pb]?) : PB W' pb f := fun i hi => by
  obtain ⟨h1, h2⟩ := h i hi
  exact ⟨(by simp only [World.cell?, hb] at h1 ⊢; exact h1), (by simp only [World.frozen?, hb] at h2 ⊢; exact h2)⟩
theorem PB.lt {W : World} {pb : Nat} {f : Nat → Value} (h : PB W pb f) : pb < W.heap.size := block_lt_cell (h 0 (by omega)).1
theorem PB.set {W : World} {pb : Nat} {f : Nat → Value} (h : PB W pb f) (k : Nat) (hk : k < 18) (v : Value) : PB (W.setCell ⟨pb, k, none⟩ v) pb (fun j => if j = k then v else f j) := fun i hi => by
  obtain ⟨h1, h2⟩ := h i hi
  refine ⟨?_, by rw [World.frozen?_setCell]; exact h2⟩
  by_cases hik : i = k
  · subst hik
    dsimp only
    rw [if_pos rfl]; exact World.cell?_setCell_same _ _ _ h1
  · dsimp only
    rw [if_neg hik, World.cell?_setCell_other _ _ _ _ (fun e => hik (by simpa using e.symm))]
    exact h1

theorem flat_last (l : List Item) (z x : Item) (val : Nat → Value) (u : Value) :
    (((((flat (l ++ [z]) val).set (l.length * 4) (.int .i64 x.kind)).set (l.length * 4 + 1) (.int .i64 x.n)).set (l.length * 4 + 2) (.string x.s)).set (l.length * 4 + 3) u) = flat (l ++ [x]) (fun j => if j = l.length then u else val j) := by
  have h := flat_length l val
  rw [flat_append, flat_append]
  rw [flat_congr l (fun j => if j = l.length then u else val j) val (fun j hj => by rw [if_neg (by omega)])]
  simp only [flat]
  rw [← h]
  simp [List.set_append_right]

/-- The last item is written over. -/
theorem Grow.fill {lo hi g cap : Nat} {W : World} {l : List Item} {z : Item} (h : Grow lo hi W (.slice (some ⟨g, 0, none⟩) (l.length + 1) cap) (l ++ [z])) (x : Item) (u : Value) (hu : Items (fun b => lo ≤ b ∧ b < hi ∧ b ≠ g) W u x.kids) :
    Grow lo hi ((((W.setCell ⟨g, l.length * 4, none⟩ (.int .i64 x.kind)).setCell ⟨g, l.length * 4 + 1, none⟩ (.int .i64 x.n)).setCell ⟨g, l.length * 4 + 2, none⟩ (.string x.s)).setCell ⟨g, l.length * 4 + 3, none⟩ u) (.slice (some ⟨g, 0, none⟩) (l.length + 1) cap) (l ++ [x]) := by
  obtain ⟨h3, h0, val, h1, h2⟩ := h
  have hone : u.oneCell' = true := by obtain ⟨A, c, hue, _⟩ := hu.form; rw [hue]; rfl
  have hl : (l ++ [z]).length = l.length + 1 := by simp
  have hl2 : (l ++ [x]).length = l.length + 1 := by simp
  have hw : ∀ b, b ≠ g → ((((W.setCell ⟨g, l.length * 4, none⟩ (.int .i64 x.kind)).setCell ⟨g, l.length * 4 + 1, none⟩ (.int .i64 x.n)).setCell ⟨g, l.length * 4 + 2, none⟩ (.string x.s)).setCell ⟨g, l.length * 4 + 3, none⟩ u).heap[b]? = W.heap[b]? := fun b hb => by
    rw [Below.heap_setCell _ _ _ _ hb, Below.heap_setCell _ _ _ _ hb, Below.heap_setCell _ _ _ _ hb, Below.heap_setCell _ _ _ _ hb]
  refine ⟨by simpa [World.setCell] using h3, h0, fun j => if j = l.length then u else val j, ⟨?_, fun j hj => ?_⟩, fun j y hy => ?_⟩
  · have r := h1.1
    rw [hl] at r
    have r1 := (r.stored (l.length * 4) (.int .i64 x.kind)).1
    have r2 := (r1.stored (l.length * 4 + 1) (.int .i64 x.n)).1
    have r3 := (r2.stored (l.length * 4 + 2) (.string x.s)).1
    have r4 := (r3.stored (l.length * 4 + 3) u).1
    rw [flat_last] at r4
    rw [hl2]
    exact r4
  · dsimp only
    split
    · exact hone
    · exact h1.2 j (by rw [hl2] at hj; rw [hl]; exact hj)
  · dsimp only
    split
    · rename_i hj
      subst hj
      have : y = x := by simpa using hy.symm
      subst this
      exact hu.keep (fun b hb => hw b hb.2.2) (fun b hb => ⟨hb.1, hb.2.1, fun e => hb.2.2 (by simpa [Value.ownBlock] using e.symm)⟩)
    · rename_i hj
      have hj2 : j < l.length := by
        have := (List.getElem?_eq_some_iff.1 hy).1
        rw [hl2] at this; omega
      rw [List.getElem?_append_left hj2] at hy
      exact (h2 j y (by rw [List.getElem?_append_left hj2]; exact hy)).keep (fun b hb => hw b (fun e => hb.2.2 (by simp [Value.ownBlock, e]))) (fun b hb => hb)

/-- What put leaves. -/
def PutDone (W : World) (pb d lo : Nat) (f : Nat → Value) (v : Value) (n : Int) (l : List Item) (W' : World) : Prop :=
  ∃ v', PB W' pb (fun j => if j = d * 2 + 1 then .int .i64 (n - 1) else if j = d * 2 then v' else f j) ∧ Grow lo W'.heap.size W' v' l ∧ W.os = W'.os ∧ W.tape = W'.tape ∧ W.output = W'.output ∧ W.heap.size ≤ W'.heap.size ∧
    ∀ k, k < W.heap.size → k ≠ pb → v.ownBlock ≠ some k → W'.heap[k]? = W.heap[k]?

/-- The zero item. -/
abbrev zeroI : Item := .mk 0 0 noT []

/-- The append of put, and what lies behind it. -/
theorem put_append {W : World} {lo hi : Nat} {v : Value} {acc : List Item} (hG : Grow lo hi W v acc) (hlo : lo ≤ hi) (hroom : acc.length ≤ 5000) (ty : TypeId) (o : Obj) :
    ∃ g cap W1, (Builtin.append_ #[143, 143] ty #[v, .slice (some ⟨W.heap.size + 1, 0, none⟩) 1 1]).run Tryz.prog (((W.alloc o).drew).alloc (.cells #[.int .i64 0, .int .i64 0, .string ⟨#[]⟩, .slice none 0 0] 145)) = .ok (.slice (some ⟨g, 0, none⟩) (acc.length + 1) cap) W1 ∧
      Grow lo W1.heap.size W1 (.slice (some ⟨g, 0, none⟩) (acc.length + 1) cap) (acc ++ [zeroI]) ∧ W.grownBy W1 v.ownBlock ∧ (v.ownBlock = some g ∨ W.heap.size ≤ g) ∧ lo ≤ g := by
  have hz : hi ≤ W.heap.size := hG.1
  have hgo := hG.own
  have hG2 : Grow lo (W.heap.size + 1) (W.alloc o).drew v acc := hG.keep (fun b _ hb => Below.heap_alloc _ _ _ (by omega)) (by omega) (by simp)
  obtain ⟨v', W1, hrun, hG1, hgr, hor⟩ := hG2.append (by omega) zeroI (.slice none 0 0) (.nil none 0 _ (fun _ => rfl) rfl) ty (by omega)
  obtain ⟨A, cap, hv', _⟩ := hG1.form
  have hl : (acc ++ [zeroI]).length = acc.length + 1 := by simp
  rw [hl] at hv'
  have hgo1 := hG1.own
  obtain ⟨_, _, val, hO, _⟩ := id hG1
  rcases hO.1.2 with ⟨hnil, hz0⟩ | ⟨g, cap', cur, hv2, _⟩
  · rw [hl] at hz0; omega
  · rw [hl] at hv2
    subst hv2
    have hsz1 : ((W.alloc o).drew).heap.size = W.heap.size + 1 := by simp
    refine ⟨g, cap', W1, ?_, hG1, ?_, ?_, (hgo1 g rfl).1⟩
    · rw [hsz1] at hrun
      exact hrun
    · refine ⟨hgr.os, hgr.tape, hgr.output, by have := hgr.size; simp at this; omega, fun k hk hne => (hgr.block k (by rw [hsz1]; omega) hne).trans (Below.heap_alloc _ _ _ hk)⟩
    · rcases hor with h1 | h1
      · exact .inl h1.symm
      · right
        rw [hsz1] at h1
        simp only [Value.ownBlock, Option.some.injEq] at h1
        omega

theorem put_done {W W1 : World} {pb d lo g cap : Nat} {f : Nat → Value} {v u : Value} {n : Int} {acc : List Item} {x : Item} (hPB : PB W pb f) (hd : d ≤ 8) (hpb : pb < lo) (hown : ∀ b, v.ownBlock = some b → lo ≤ b) (hlg : lo ≤ g)
    (hG1 : Grow lo W1.heap.size W1 (.slice (some ⟨g, 0, none⟩) (acc.length + 1) cap) (acc ++ [zeroI])) (hgr : W.grownBy W1 v.ownBlock) (hor : v.ownBlock = some g ∨ W.heap.size ≤ g)
    (hu : Items (fun b => lo ≤ b ∧ b < W.heap.size ∧ v.ownBlock ≠ some b) W u x.kids) {W' : World}
    (hW' : W' = (((((((W1.setCell ⟨g, acc.length * 4, none⟩ (.int .i64 x.kind)).setCell ⟨g, acc.length * 4 + 1, none⟩ (.int .i64 x.n)).setCell ⟨g, acc.length * 4 + 2, none⟩ (.string x.s)).setCell ⟨g, acc.length * 4 + 3, none⟩ u).setCell ⟨pb, d * 2, none⟩ (.slice (some ⟨g, 0, none⟩) (acc.length + 1) cap)).setCell ⟨pb, d * 2 + 1, none⟩ (.int .i64 (n - 1))))) :
    PutDone W pb d lo f v n (acc ++ [x]) W' := by
  have hpl := hPB.lt
  have hfill := hG1.fill x u (hu.keep (fun b hb => hgr.block b hb.2.1 (fun e => hb.2.2 e.symm)) (fun b hb => ⟨hb.1, by have := hgr.size; omega, fun e => by
    rcases hor with h | h
    · exact hb.2.2 (by rw [h, e])
    · omega⟩))
  have hPB1 : PB W1 pb f := hPB.keep (hgr.block pb hpl (fun e => by have := hown pb e.symm; omega))
  have hgp : pb ≠ g := by omega
  have hPB2 := PB.keep (W' := ((((W1.setCell ⟨g, acc.length * 4, none⟩ (.int .i64 x.kind)).setCell ⟨g, acc.length * 4 + 1, none⟩ (.int .i64 x.n)).setCell ⟨g, acc.length * 4 + 2, none⟩ (.string x.s)).setCell ⟨g, acc.length * 4 + 3, none⟩ u)) hPB1 (by
    rw [Below.heap_setCell _ _ _ _ hgp, Below.heap_setCell _ _ _ _ hgp, Below.heap_setCell _ _ _ _ hgp, Below.heap_setCell _ _ _ _ hgp])
  have hPB3 := (hPB2.set (d * 2) (by omega) (.slice (some ⟨g, 0, none⟩) (acc.length + 1) cap)).set (d * 2 + 1) (by omega) (.int .i64 (n - 1))
  rw [← hW'] at hPB3
  have hsz : W'.heap.size = W1.heap.size := by rw [hW']; simp [World.setCell]
  have hB0 : Below 0 W1 W' := by
    rw [hW']
    exact ((((((Below.refl 0 W1).setCell (Nat.zero_le _) _).setCell (Nat.zero_le _) _).setCell (Nat.zero_le _) _).setCell (Nat.zero_le _) _).setCell (Nat.zero_le _) _).setCell (Nat.zero_le _) _
  refine ⟨.slice (some ⟨g, 0, none⟩) (acc.length + 1) cap, hPB3, ?_, ?_, ?_, ?_, ?_, fun k hk hne hno => ?_⟩
  · refine hfill.keep (fun b hb _ => ?_) (by rw [hsz]; exact Nat.le_refl _) (Nat.le_refl _)
    rw [hW', Below.heap_setCell _ _ _ _ (by show b ≠ pb; omega), Below.heap_setCell _ _ _ _ (by show b ≠ pb; omega)]
  · exact (hB0.os.trans hgr.os).symm
  · exact (hB0.tape.trans hgr.tape).symm
  · exact (hB0.output.trans hgr.output).symm
  · rw [hsz]; exact hgr.size
  · have hkg : k ≠ g := fun e => by
      rcases hor with h | h
      · exact hno (by rw [h, e])
      · omega
    rw [hW', Below.heap_setCell _ _ _ _ hne, Below.heap_setCell _ _ _ _ hne, Below.heap_setCell _ _ _ _ hkg, Below.heap_setCell _ _ _ _ hkg, Below.heap_setCell _ _ _ _ hkg, Below.heap_setCell _ _ _ _ hkg]
    exact hgr.block k hk (fun e => hno e.symm)

set_option maxRecDepth 100000 in
set_option maxHeartbeats 4000000 in
theorem put_calls (x : Item) (Au : Option Addr) (lu cu pb d lo hi : Nat) (f : Nat → Value) (v : Value) (n : Int) (acc : List Item) (W : World) (hPB : PB W pb f) (hd : d ≤ 8) (h0 : f (d * 2) = v) (h1 : f (d * 2 + 1) = .int .i64 n)
    (hn : -9223372036854775807 ≤ n ∧ n ≤ 9223372036854775807) (hG : Grow lo hi W v acc) (hlo : lo ≤ hi) (hpb : pb < lo) (hroom : acc.length ≤ 5000)
    (hu : Items (fun b => lo ≤ b ∧ b < W.heap.size ∧ v.ownBlock ≠ some b) W (.slice Au lu cu) x.kids) :
    Calls Tryz.prog 168 #[.pointer (some ⟨pb, d * 2, none⟩), aggOf x (.slice Au lu cu)] W fun e W' => e = .returned (.tuple #[]) ∧ PutDone W pb d lo f v n (acc ++ [x]) W' := by
  have hown := hG.own
  obtain ⟨g, cap, W1, hrun, hG1, hgr, hor, hlg⟩ := put_append hG hlo hroom 143 (.cells #[.int .i64 x.kind, .int .i64 x.n, .string x.s, .slice Au lu cu] 145)
  obtain ⟨A, cap0, rfl, _⟩ := hG.form
  obtain ⟨len, hlen⟩ : ∃ len, acc.length = len := ⟨_, rfl⟩
  rw [hlen] at hrun
  have hc0 := (hPB (d * 2) (by omega)).1
  have hc1 := (hPB (d * 2 + 1) (by omega)).1
  have hz0 := (hPB (d * 2) (by omega)).2
  have hz1 := (hPB (d * 2 + 1) (by omega)).2
  rw [h0, hlen] at hc0
  rw [h1] at hc1
  have HRUN := Lib.hid hrun
  have hpl := hPB.lt
  have hPB1 : PB W1 pb f := hPB.keep (hgr.block pb hpl (fun e => by have := hown pb e.symm; omega))
  have hc0' := (hPB1 (d * 2) (by omega)).1
  have hc1' := (hPB1 (d * 2 + 1) (by omega)).1
  have hz0' := (hPB1 (d * 2) (by omega)).2
  have hz1' := (hPB1 (d * 2 + 1) (by omega)).2
  rw [h0, hlen] at hc0'
  rw [h1] at hc1'
  obtain ⟨_, _, val, hO, _⟩ := id hG1
  have hcell := hO.cells (by simp) (j := acc.length) (x := zeroI) (by simp)
  obtain ⟨⟨i0, i1, i2, i3⟩, hfz⟩ := hcell
  rw [hlen] at i0 i1 i2 i3
  have j0 := hfz (len * 4)
  have j1 := hfz (len * 4 + 1)
  have j2 := hfz (len * 4 + 2)
  have j3 := hfz (len * 4 + 3)
  have hgp : ¬ g = pb := by omega
  have hpg : ¬ pb = g := by omega
  have hWp : ¬ pb = W.heap.size := by omega
  have hlenI : (len : Int) ≤ 5000 := by omega
  have hltI : (len : Int) < (len : Int) + 1 := by omega
  have hcapI : len ≤ cap0 := by rename_i h; omega
  have HDONE := fun W' => Lib.hid (put_done (W' := W') (x := x) (u := .slice Au lu cu) (n := n) hPB hd hpb (fun b hb => (hown b hb).1) hlg hG1 hgr hor hu)
  rw [hlen] at HDONE ⊢
  clear hrun hG hG1 hgr hor hu hown hO hfz hPB hPB1 h0 h1 hlen
  unfold aggOf
  go_enter Tryz.func168, Tryz.ntmps168
  go_wp2_with fail
  go_region_law (refine step_append_ran rfl _ _ _ rfl rfl rfl HRUN.out ?_)
  all_goals clear HRUN hc0 hc1 hz0 hz1
  all_goals
    go_wp2
    go_end0
    refine ⟨rfl, (HDONE _).out ?_⟩
    first
    | with_reducible rfl
    | rw [setCell_swap _ ⟨pb, d * 2, none⟩ ⟨g, len * 4, none⟩ _ _ hpg, setCell_swap _ ⟨pb, d * 2, none⟩ ⟨g, len * 4 + 1, none⟩ _ _ hpg, setCell_swap _ ⟨pb, d * 2, none⟩ ⟨g, len * 4 + 2, none⟩ _ _ hpg, setCell_swap _ ⟨pb, d * 2, none⟩ ⟨g, len * 4 + 3, none⟩ _ _ hpg]

end Go.Proofs.YtdikmlnpclklnaaGreatDoor.Wire
