/-
  Put together out of texts of one chain: what they hold stands ahead of each.
-/
import Derived.Test.YtdikmlnpclklnaaGreatDoorWireMath
import Derived.Test.YtdikmlnpclklnaaGreatDoorSame
import Derived.Test.YtdikmlnpclklnaaGreatDoorWireCount
import Derived.Laws.Bits64
import Derived.Test.YtdikmlnpclklnaaGreatDoorWireApt
import Derived.Maps.AppendAt
import Derived.OwnWalk
/-
  How items are read out of bytes: plain definitions.
-/
namespace Go.Proofs.YtdikmlnpclklnaaGreatDoor.Wire
open Go Go.Proofs.YtdikmlnpclklnaaGreatDoor.Law

/-- A number, from its digit i on, n so far. -/
def rdNum (i n : Nat) : List Nat → Except Nat (Nat × List Nat)
  | [] => .error 5
  | x :: r => if (i = 9 ∧ 1 < x) ∨ (0 < i ∧ x = 0) then .error 3 else if x < 128 then .ok (n + x % 128 * 128 ^ i, r) else rdNum (i + 1) (n + x % 128 * 128 ^ i) r

/-- A number as an int. -/
def unzig (u : Nat) : Int := if u % 2 = 1 then -((u / 2 : Nat) : Int) - 1 else ((u / 2 : Nat) : Int)

/-- An item's kind and number. -/
def rdHead : List Nat → Except Nat (Nat × Nat × List Nat)
  | [] => .error 5
  | k :: r => if 2 < k then .error 3 else
    match rdNum 0 0 r with
    | .error e => .error e
    | .ok (n, r') => if k ≠ 0 ∧ 9223372036854775807 < n then .error 3 else .ok (k, n, r')

/-- n items, one behind the other. -/
def rdL (f : Nat → List Nat → Except Nat (Item × Nat × List Nat)) : Nat → Nat → List Nat → List Item → Except Nat (List Item × Nat × List Nat)
  | 0, c, bs, acc => .ok (acc, c, bs)
  | n + 1, c, bs, acc =>
    match f c bs with
    | .error e => .error e
    | .ok (x, c', bs') => rdL f n c' bs' (acc ++ [x])

def noT : ByteArray := ⟨#[]⟩
/-- An item that may lie b deep; c items were ahead. -/
def rdI : Nat → Nat → List Nat → Except Nat (Item × Nat × List Nat)
  | 0, _, _ => .error 2
  | b + 1, c, bs => if 4096 < c + 1 then .error 2 else
    match rdHead bs with
    | .error e => .error e
    | .ok (k, n, r) =>
      if k = 0 then .ok (.mk 0 (unzig n) noT [], c + 1, r)
      else if k = 1 then (if r.length < n then .error 5 else .ok (.mk 1 0 (str (r.take n)) [], c + 1, r.drop n))
      else
        match rdL (rdI b) n (c + 1) r [] with
        | .error e => .error e
        | .ok (l, c', r') => .ok (.mk 2 0 noT l, c', r')

/-- Items till the bytes end. -/
def rdTop : Nat → Nat → List Nat → List Item → Except Nat (List Item)
  | 0, _, _, _ => .error 2
  | f + 1, c, bs, acc => if bs = [] then .ok acc else
    match rdI 8 c bs with
    | .error e => .error e
    | .ok (x, c', bs') => rdTop f c' bs' (acc ++ [x])

/-- A message. -/
def decN (bs : List Nat) : Except Nat (List Item) := if 65536 < bs.length then .error 2 else rdTop 4097 0 bs []

theorem rdNum_length : ∀ (bs : List Nat) (i n m : Nat) (r : List Nat), rdNum i n bs = .ok (m, r) → r.length < bs.length ∧ ∃ k, r = bs.drop k
  | [], i, n, m, r, h => by simp [rdNum] at h
  | x :: bs, i, n, m, r, h => by
    rw [rdNum] at h
    split at h
    · cases h
    · split at h
      · simp only [Except.ok.injEq, Prod.mk.injEq] at h
        obtain ⟨_, rfl⟩ := h
        exact ⟨by simp, 1, rfl⟩
      · obtain ⟨h1, k, h2⟩ := rdNum_length bs _ _ _ _ h
        exact ⟨by simp; omega, k + 1, by rw [h2]; rfl⟩

theorem pow128_le {k : Nat} (h : k ≤ 9) : 128 ^ k ≤ 9223372036854775808 := by
  have : 128 ^ k ≤ 128 ^ 9 := Nat.pow_le_pow_right (by decide) h
  have e : 128 ^ 9 = 9223372036854775808 := by decide
  omega
theorem digit_bound {k x n : Nat} (hk : k ≤ 9) (hx : k = 9 → x ≤ 1) (hn : n < 128 ^ k) : n + x % 128 * 128 ^ k < 18446744073709551616 ∧ (k < 9 → n + x % 128 * 128 ^ k < 128 ^ (k + 1)) := by
  have h1 := pow128_le hk
  have h2 : x % 128 ≤ 127 := by omega
  have h3 : x % 128 * 128 ^ k ≤ 127 * 128 ^ k := Nat.mul_le_mul_right _ h2
  have e : 128 ^ (k + 1) = 128 * 128 ^ k := by rw [Nat.pow_succ, Nat.mul_comm]
  refine ⟨?_, fun _ => by omega⟩
  by_cases h9 : k = 9
  · have hx1 := hx h9
    have h4 : x % 128 * 128 ^ k ≤ 1 * 128 ^ k := Nat.mul_le_mul_right _ (by omega)
    omega
  · have : 128 ^ k ≤ 128 ^ 8 := Nat.pow_le_pow_right (by decide) (by omega)
    have e : 128 ^ 8 = 72057594037927936 := by decide
    omega
theorem rdNum_lt : ∀ (bs : List Nat) (i n m : Nat) (r : List Nat), i ≤ 9 → n < 128 ^ i → rdNum i n bs = .ok (m, r) → m < 18446744073709551616
  | [], i, n, m, r, _, _, h => by simp [rdNum] at h
  | x :: bs, i, n, m, r, hi, hn, h => by
    rw [rdNum] at h
    split at h
    · cases h
    · rename_i hbad
      have hb := digit_bound (k := i) (x := x) (n := n) hi (fun h9 => by
        rcases Nat.lt_or_ge 1 x with h1 | h1
        · exact absurd (.inl ⟨h9, h1⟩) hbad
        · exact h1) hn
      split at h
      · simp only [Except.ok.injEq, Prod.mk.injEq] at h
        obtain ⟨rfl, _⟩ := h
        exact hb.1
      · rename_i hbig
        by_cases h9 : i = 9
        · exact absurd (.inl ⟨h9, by omega⟩) hbad
        · exact rdNum_lt bs (i + 1) _ m r (by omega) (hb.2 (by omega)) h

end Go.Proofs.YtdikmlnpclklnaaGreatDoor.Wire

/-
  The document's own reading of a number.
-/
namespace Go.Proofs.YtdikmlnpclklnaaGreatDoor.Wire
open Go Go.RowKit Go.Proofs.YtdikmlnpclklnaaGreatDoor.Law

/-- The reader's block: what is left, the count, the error. -/
def Rd (W : World) (rb : Nat) (B : Value) (c e : Nat) : Prop := W.heap[rb]? = some (Obj.cells #[B, .int .i64 (c : Nat), .int .i64 (e : Nat)] 185 (0, 0))
theorem Rd.cells {W : World} {rb c e : Nat} {B : Value} (h : Rd W rb B c e) : W.cell? ⟨rb, 0, none⟩ = some B ∧ W.cell? ⟨rb, 1, none⟩ = some (.int .i64 (c : Nat)) ∧ W.cell? ⟨rb, 2, none⟩ = some (.int .i64 (e : Nat)) ∧ W.frozen? ⟨rb, 0, none⟩ = false ∧ W.frozen? ⟨rb, 1, none⟩ = false ∧ W.frozen? ⟨rb, 2, none⟩ = false := by
  unfold Rd at h
  refine ⟨?_, ?_, ?_, ?_, ?_, ?_⟩ <;> simp [World.cell?, World.frozen?, h]
theorem Rd.below {W W' : World} {rb c e : Nat} {B : Value} (h : Rd W rb B c e) (hB : Below W.heap.size W W') : Rd W' rb B c e := (hB.block rb (lt_of_some h)).trans h
theorem Rd.set0 {W : World} {rb c e : Nat} {B : Value} (h : Rd W rb B c e) (v : Value) : Rd (W.setCell ⟨rb, 0, none⟩ v) rb v c e := by
  unfold Rd at h ⊢
  simp [World.setCell, Array.getElem?_modify, h]
theorem Rd.set1 {W : World} {rb c e : Nat} {B : Value} (h : Rd W rb B c e) (c' : Nat) {v : Value} (hv : v = .int .i64 (c' : Nat)) : Rd (W.setCell ⟨rb, 1, none⟩ v) rb B c' e := by
  subst hv
  unfold Rd at h ⊢
  simp [World.setCell, Array.getElem?_modify, h]
theorem Rd.set2 {W : World} {rb c e : Nat} {B : Value} (h : Rd W rb B c e) (e' : Nat) {v : Value} (hv : v = .int .i64 (e' : Nat)) : Rd (W.setCell ⟨rb, 2, none⟩ v) rb B c e' := by
  subst hv
  unfold Rd at h ⊢
  simp [World.setCell, Array.getElem?_modify, h]

/-- What is left behind k bytes. -/
def cutAt (A : Option Addr) (len cap k : Nat) : Value := if cap = k then .slice A 0 0 else match A with
  | some ⟨b, off, _⟩ => .slice (some ⟨b, off + k, none⟩) (len - k) (cap - k)
  | none => .slice none 0 0
theorem bytes_cut {n₀ : Nat} {W : World} {A : Option Addr} {len cap k : Nat} {bs : List Nat} (h : Bytes n₀ W (.slice A len cap) bs) (hk : k ≤ len) (hp : 0 < len) : Bytes n₀ W (cutAt A len cap k) (bs.drop k) := by
  obtain ⟨b, off, rfl, hb, hc⟩ := h.cells hp
  have hcap := h.capOk
  have h256 := h.lt
  have hlen : bs.length = len := by
    obtain ⟨A', c', e, _⟩ := h
    simp only [Value.slice.injEq] at e
    omega
  unfold cutAt
  split
  · rename_i hck
    have : bs.drop k = [] := List.drop_of_length_le (by omega)
    rw [this]
    exact ⟨_, 0, rfl, Nat.le_refl _, fun _ => rfl, by simp, fun h => (by simp at h)⟩
  · have hl2 : (bs.drop k).length = len - k := by rw [List.length_drop, hlen]
    refine ⟨_, cap - k, by rw [hl2], by omega, fun h => (by cases h), fun x hx => h256 x (List.mem_of_mem_drop hx), fun hp2 => ⟨b, off + k, rfl, hb, fun j hj => ?_⟩⟩
    rw [hl2] at hj
    rw [show off + k + j = off + (k + j) by omega, hc (k + j) (by omega)]
    congr 3
    simp [List.getD, List.getElem?_drop]

/-- What number leaves. -/
def Numbered (w : World) (rb n₀ c : Nat) (B0 : Value) : Except Nat (Nat × List Nat) → Ending → World → Prop
  | .ok (m, r), e, W => e = .returned (.int .u64 (m : Nat)) ∧ w.grownBy W (some rb) ∧ ∃ B, Rd W rb B c 0 ∧ Bytes n₀ W B r
  | .error k, e, W => e = .returned (.int .u64 0) ∧ w.grownBy W (some rb) ∧ Rd W rb B0 c k

set_option maxRecDepth 100000 in
set_option maxHeartbeats 4000000 in
theorem refnumber_calls (rb n₀ c : Nat) (B : Value) (bs : List Nat) (hlen0 : bs.length ≤ 65536) (w : World) (hR : Rd w rb B c 0) (hI : Bytes n₀ w B bs) (hn : n₀ ≤ rb) :
    Calls Tryz.prog 147 #[.pointer (some ⟨rb, 0, none⟩)] w (Numbered w rb n₀ c B (rdNum 0 0 bs)) := by
  obtain ⟨A, cap, rfl⟩ := hI.form
  obtain ⟨len, hlen⟩ : ∃ len, bs.length = len := ⟨_, rfl⟩
  obtain ⟨R, hRR⟩ : ∃ R, rdNum 0 0 bs = R := ⟨_, rfl⟩
  have hcap := hI.capOk
  rw [hRR]
  rw [hlen] at hI hlen0 hR hcap ⊢
  obtain ⟨r0, r1, r2, z0, z1, z2⟩ := hR.cells
  have HR := Lib.hid hR
  have HI := Lib.hid hI
  have HL := Lib.hid hlen
  have HRR := Lib.hid hRR
  clear hR hI hlen hRR
  go_enter Tryz.func147, Tryz.ntmps147
  go_wp2
  go_loopw [3, 4, 5] (fun a p i wr => ∃ k n : Nat, i = .int .i64 k ∧ a = .int .u64 (n : Nat) ∧ p = .int .u64 ((128 ^ k : Nat) : Int) ∧ k ≤ len ∧ k ≤ 9 ∧ n < 128 ^ k ∧ rdNum k n (bs.drop k) = R ∧ w = wr) (fun _ _ i _ => len - (intOf i).toNat)
  case atStart => exact ⟨0, 0, rfl, rfl, rfl, Nat.zero_le _, by omega, by decide, by rw [List.drop_zero, HRR.out], rfl⟩
  case round =>
    obtain ⟨k, n, rfl, rfl, rfl, hk, hk9, hnk, h1, rfl⟩ := hrel
    by_cases hlt : k < len
    · obtain ⟨x, hx⟩ : ∃ x, bs[k]? = some x := ⟨_, List.getElem?_eq_getElem (by rw [HL.out]; exact hlt)⟩
      obtain ⟨b, off, rfl, hb, hc⟩ := HI.out.cells (by omega)
      have hck := hc k hlt
      have hxd : bs.getD k 0 = x := by simp [List.getD, hx]
      have hx256 : x < 256 := HI.out.lt x (List.mem_of_getElem? hx)
      rw [hxd] at hck
      have hd : bs.drop k = x :: bs.drop (k + 1) := drop_get hx
      rw [hd, rdNum] at h1
      have hpl := pow128_le hk9
      obtain ⟨P, hP⟩ : ∃ P, 128 ^ k = P := ⟨_, rfl⟩
      rw [hP] at h1 hnk hpl ⊢
      have HP := Lib.hid hP
      have HNK := Lib.hid hnk
      have hne : ¬ b = rb := by omega
      have hkI : (k : Int) ≤ 9 := by omega
      have hxI : (x : Int) < 256 := by omega
      by_cases hbad : (k = 9 ∧ 1 < x) ∨ (0 < k ∧ x = 0)
      · rw [if_pos hbad] at h1
        have H1 := Lib.hid h1
        clear hc hxd h1 hd hP hnk
        rcases hbad with ⟨rfl, hx1⟩ | ⟨hk0, rfl⟩
        · have hx1I : 1 < (x : Int) := by omega
          go_wp2
          go_ret
          obtain rfl := H1.out
          exact ⟨rfl, grown_set (i := 2) (grown_refl _ _) _, HR.out.set2 3 rfl⟩
        · have hk0I : 0 < (k : Int) := by omega
          by_cases h9 : k = 9
          · subst h9
            go_wp2
            go_ret
            obtain rfl := H1.out
            exact ⟨rfl, grown_set (i := 2) (grown_refl _ _) _, HR.out.set2 3 rfl⟩
          · go_wp2
            all_goals
              go_ret
              obtain rfl := H1.out
              exact ⟨rfl, grown_set (i := 2) (grown_refl _ _) _, HR.out.set2 3 rfl⟩
      · rw [if_neg hbad] at h1
        have hdb := digit_bound (k := k) (x := x) (n := n) hk9 (fun h9 => by
          rcases Nat.lt_or_ge 1 x with h2 | h2
          · exact absurd (.inl ⟨h9, h2⟩) hbad
          · exact h2) (by rw [hP]; exact hnk)
        rw [hP] at hdb
        have hpr : ((x : Int) % 128) * (P : Int) = ((x % 128 * P : Nat) : Int) := by simp
        obtain ⟨pr, hpr0⟩ : ∃ pr, x % 128 * P = pr := ⟨_, rfl⟩
        rw [hpr0] at hpr hdb h1
        have hprb : pr < 18446744073709551616 := by omega
        have hb9 : k = 9 → x ≤ 1 := fun h9 => by
          rcases Nat.lt_or_ge 1 x with h2 | h2
          · exact absurd (.inl ⟨h9, h2⟩) hbad
          · exact h2
        have hb0 : 0 < k → ¬ x = 0 := fun h e => hbad (.inr ⟨h, e⟩)
        have HDB := Lib.hid hdb
        have H1 := Lib.hid h1
        clear hbad hdb h1 hc hxd hd hP hnk
        by_cases hsmall : x < 128
        · have hsI : (x : Int) < 128 := by omega
          have hcutk : k + 1 ≤ len := by omega
          have hB' := bytes_cut HI.out hcutk (by omega)
          have HB' := Lib.hid hB'
          have hval : IntKind.u64.wrap ((n : Int) + (pr : Int)) = ((n + pr : Nat) : Int) := by rw [IntKind.wrap_u64]; have := HDB.out.1; omega
          have HVAL := Lib.hid hval
          have hz1 : ((k : Int) + 1).toNat = k + 1 := by omega
          clear hB' hval
          have hRR : R = .ok (n + pr, bs.drop (k + 1)) := by rw [← H1.out, if_pos hsmall]
          have HRR := Lib.hid hRR
          clear hRR
          by_cases hck1 : cap = k + 1
          · have hB2 : Bytes n₀ w (.slice (some ⟨b, off, none⟩) (len - (k + 1)) 0) (bs.drop (k + 1)) := by have := HB'.out; unfold cutAt at this; rw [if_pos hck1] at this; rwa [show len - (k + 1) = 0 by omega]
            have HB2 := Lib.hid hB2
            clear hB2
            by_cases h9 : k = 9
            · have hx1 := hb9 h9
              have hx1I : ¬ 1 < (x : Int) := by omega
              have hx0I : ¬ (x : Int) = 0 := by have := hb0 (by omega); omega
              subst h9
              go_wp2
              go_ret
              rw [HRR.out]
              exact ⟨ret_int HVAL.out, grown_set (i := 0) (grown_refl _ _) _, _, HR.out.set0 _, Bytes.below ((Below.refl n₀ w).setCell (p := ⟨rb, 0, none⟩) hn _) HB2.out⟩
            · by_cases hk0 : k = 0
              · have hk0I : ¬ 0 < (k : Int) := by omega
                have h9I : ¬ (k : Int) = 9 := by omega
                clear hk0
                go_wp2
                go_ret
                rw [HRR.out]
                exact ⟨ret_int HVAL.out, grown_set (i := 0) (grown_refl _ _) _, _, HR.out.set0 _, Bytes.below ((Below.refl n₀ w).setCell (p := ⟨rb, 0, none⟩) hn _) HB2.out⟩
              · have hk0I : 0 < (k : Int) := by omega
                have h9I : ¬ (k : Int) = 9 := by omega
                have hx0I : ¬ (x : Int) = 0 := by have := hb0 (by omega); omega
                go_wp2
                go_ret
                rw [HRR.out]
                exact ⟨ret_int HVAL.out, grown_set (i := 0) (grown_refl _ _) _, _, HR.out.set0 _, Bytes.below ((Below.refl n₀ w).setCell (p := ⟨rb, 0, none⟩) hn _) HB2.out⟩
          · have hB2 : Bytes n₀ w (.slice (some ⟨b, off + (k + 1), none⟩) (len - (k + 1)) (cap - (k + 1))) (bs.drop (k + 1)) := by have := HB'.out; unfold cutAt at this; rwa [if_neg hck1] at this
            have HB2 := Lib.hid hB2
            clear hB2
            by_cases h9 : k = 9
            · have hx1 := hb9 h9
              have hx1I : ¬ 1 < (x : Int) := by omega
              have hx0I : ¬ (x : Int) = 0 := by have := hb0 (by omega); omega
              subst h9
              go_wp2
              go_ret
              rw [HRR.out]
              exact ⟨ret_int HVAL.out, grown_set (i := 0) (grown_refl _ _) _, _, HR.out.set0 _, Bytes.below ((Below.refl n₀ w).setCell (p := ⟨rb, 0, none⟩) hn _) HB2.out⟩
            · by_cases hk0 : k = 0
              · have hk0I : ¬ 0 < (k : Int) := by omega
                have h9I : ¬ (k : Int) = 9 := by omega
                clear hk0
                go_wp2
                go_ret
                rw [HRR.out]
                exact ⟨ret_int HVAL.out, grown_set (i := 0) (grown_refl _ _) _, _, HR.out.set0 _, Bytes.below ((Below.refl n₀ w).setCell (p := ⟨rb, 0, none⟩) hn _) HB2.out⟩
              · have hk0I : 0 < (k : Int) := by omega
                have h9I : ¬ (k : Int) = 9 := by omega
                have hx0I : ¬ (x : Int) = 0 := by have := hb0 (by omega); omega
                go_wp2
                go_ret
                rw [HRR.out]
                exact ⟨ret_int HVAL.out, grown_set (i := 0) (grown_refl _ _) _, _, HR.out.set0 _, Bytes.below ((Below.refl n₀ w).setCell (p := ⟨rb, 0, none⟩) hn _) HB2.out⟩
        · have hsI : ¬ (x : Int) < 128 := by omega
          have hk8 : ¬ k = 9 := fun h9 => by have := hb9 h9; omega
          have hk8I : ¬ (k : Int) = 9 := by omega
          have hx0 : ¬ (x : Int) = 0 := by omega
          go_wp2
          all_goals
            go_roundw
            case rel =>
              refine ⟨k + 1, n + pr, by go_num, ?_, ?_, by omega, by omega, HDB.out.2 (by omega), ?_, trivial⟩
              · rw [IntKind.wrap_u64]; congr 1; have := HDB.out.1; omega
              · have e : 128 ^ (k + 1) = P * 128 := by rw [Nat.pow_succ, HP.out]
                have hp8 : P ≤ 72057594037927936 := by
                  rw [← HP.out]
                  have h8 : 128 ^ k ≤ 128 ^ 8 := Nat.pow_le_pow_right (by decide) (by omega)
                  have e8 : 128 ^ 8 = 72057594037927936 := by decide
                  omega
                rw [e, IntKind.wrap_u64]; congr 1; omega
              · have := H1.out; rw [if_neg hsmall] at this; exact this
            case measure => simp [intOf]; omega
    · obtain rfl : k = len := by omega
      rw [List.drop_of_length_le (by rw [HL.out]; exact Nat.le_refl _), rdNum] at h1
      have H1 := Lib.hid h1
      clear h1
      go_wp2
      go_ret
      obtain rfl := H1.out
      exact ⟨rfl, grown_set (i := 2) (grown_refl _ _) _, HR.out.set2 5 rfl⟩

end Go.Proofs.YtdikmlnpclklnaaGreatDoor.Wire

/-
  Pieces of bytes: what is cut off ahead or behind, as a step of the walk.
-/
namespace Go.Proofs.YtdikmlnpclklnaaGreatDoor.Wire
open Go Go.RowKit Go.Proofs.YtdikmlnpclklnaaGreatDoor.Law

theorem wpList_slice_ran {P : Program} {ops : Array Oper} {rest : List Oper} {o : Oper} {a : Act} {w : World} {Q : Exit → Act → World → Prop} (hgd : Region.wanted o (yielded ops a.tmps) = true) (t : TypeId) (x : Operand) (lo hi mx : Option Operand)
    (ho : o.op = .slice t x lo hi mx) {xv v' : Value} {lov hiv mxv : Option Value} (hx : a.eval x = xv) (hlo : lo.map a.eval = lov) (hhi : hi.map a.eval = hiv) (hmx : mx.map a.eval = mxv)
    (hrun : (Instr.sliceAt t xv lov hiv mxv).run P w = .ok v' w) (h : wpList P ops Q rest (a.put o.dst v') w) : wpList P ops Q (o :: rest) a w := by
  refine wpList_step fun K hK => ?_
  rw [if_pos hgd]
  unfold Oper.wp execOp
  simp only [ho, hx, hlo, hhi, hmx, Sem.run_bind, Sem.run_pure, hrun, Result.andThen_ok]
  exact hK _ _ h

theorem elem_bytes : Tryz.prog.underlying 29 = some (.slice (Tryz.prog.elem 29)) := by kernel_rfl
theorem size_byte (w : World) : (sizeOf (Tryz.prog.elem 29)).run Tryz.prog w = .ok 1 w := by
  have : Tryz.prog.elem 29 = 5 := by kernel_rfl
  rw [this]
  obtain ⟨i0, hi, _, hz1, _⟩ := info_parts info_u8w
  simp [sizeOf, typeInfo, hi, hz1]

/-- What is left behind k bytes. -/
theorem run_behind {n₀ : Nat} {W : World} {A : Option Addr} {len cap k : Nat} {bs : List Nat} (h : Bytes n₀ W (.slice A len cap) bs) (kd : IntKind) (hk : k ≤ len) :
    ∃ v, (∀ w, (Instr.sliceAt 29 (.slice A len cap) (some (.int kd (k : Nat))) none none).run Tryz.prog w = .ok v w) ∧ Bytes n₀ W v (bs.drop k) := by
  refine ⟨sliced A k len cap 1, fun w => ?_, ?_⟩
  · rw [run_sliceAt_slice (P := Tryz.prog) (w := w) _ _ _ _ _ elem_bytes, run_slice_l (P := Tryz.prog) (w := w) 29 A len cap elem_bytes kd (k : Nat) (by omega) (by omega), size_byte, Result.andThen_ok]
    simp
  · have hcap := h.capOk
    have hlen : bs.length = len := by
      obtain ⟨A', c', e, _⟩ := h
      simp only [Value.slice.injEq] at e
      omega
    rcases Nat.eq_zero_or_pos len with h0 | hp
    · subst h0
      obtain rfl : k = 0 := by omega
      have hb0 : bs = [] := List.eq_nil_of_length_eq_zero hlen
      subst hb0
      obtain ⟨A', c', e, _, hA, _⟩ := h
      simp only [Value.slice.injEq] at e
      obtain ⟨rfl, -, rfl⟩ := e
      refine ⟨_, cap, rfl, Nat.zero_le _, fun hn => ?_, by simp, fun hh => by simp at hh⟩
      by_cases hc : cap = 0
      · exact hc
      · rw [if_neg hc] at hn
        cases A with
        | none => exact hA rfl
        | some a => simp at hn
    · have := bytes_cut h hk hp
      obtain ⟨b, off, rfl, _⟩ := h.cells hp
      unfold cutAt at this
      unfold sliced
      by_cases hck : cap = k
      · rw [if_pos hck] at this ⊢
        rw [show len - k = 0 by omega, show cap - k = 0 by omega]; exact this
      · rw [if_neg hck] at this ⊢
        by_cases hk0 : k = 0
        · subst hk0; simpa [Addr.add] using this
        · simpa [Addr.add_lit] using this

/-- The first k bytes. -/
theorem run_ahead {n₀ : Nat} {W : World} {A : Option Addr} {len cap k : Nat} {bs : List Nat} (h : Bytes n₀ W (.slice A len cap) bs) (kd : IntKind) (hk : k ≤ len) :
    ∃ v, (∀ w, (Instr.sliceAt 29 (.slice A len cap) none (some (.int kd (k : Nat))) none).run Tryz.prog w = .ok v w) ∧ Bytes n₀ W v (bs.take k) := by
  have hcap := h.capOk
  have hlen : bs.length = len := by
    obtain ⟨A', c', e, _⟩ := h
    simp only [Value.slice.injEq] at e
    omega
  refine ⟨.slice A k cap, fun w => ?_, h.front k (by omega)⟩
  rw [run_sliceAt_slice (P := Tryz.prog) (w := w) _ _ _ _ _ elem_bytes, run_slice_h (P := Tryz.prog) (w := w) 29 A len cap elem_bytes kd (k : Nat) (by omega) (by omega), size_byte, Result.andThen_ok]
  unfold sliced
  cases A with
  | none => simp
  | some a => simp [Addr.add]

end Go.Proofs.YtdikmlnpclklnaaGreatDoor.Wire

/-
  A row of items that the call itself has made: its cells, what is appended, what is stored.
-/
namespace Go.Proofs.YtdikmlnpclklnaaGreatDoor.Wire
open Go Go.RowKit Go.Proofs.YtdikmlnpclklnaaGreatDoor.Law

/-- Items as cells, their lists' values by number. -/
def flat : List Item → (Nat → Value) → List Value
  | [], _ => []
  | x :: r, val => .int .i64 x.kind :: .int .i64 x.n :: .string x.s :: val 0 :: flat r (fun j => val (j + 1))

theorem flat_length : ∀ (l : List Item) (val : Nat → Value), (flat l val).length = l.length * 4
  | [], _ => rfl
  | x :: r, val => by simp only [flat, List.length_cons, flat_length r]; omega
theorem flat_congr (l : List Item) (val val' : Nat → Value) (h : ∀ j, j < l.length → val j = val' j) : flat l val = flat l val' := by
  induction l generalizing val val' with
  | nil => rfl
  | cons x r ih =>
    simp only [flat]
    rw [h 0 (by simp), ih (fun j => val (j + 1)) (fun j => val' (j + 1)) (fun j hj => h (j + 1) (by simpa using hj))]
theorem flat_append : ∀ (a b : List Item) (val : Nat → Value), flat (a ++ b) val = flat a val ++ flat b (fun j => val (a.length + j))
  | [], b, val => by simp [flat]
  | x :: a, b, val => by
    simp only [List.cons_append, flat, flat_append a b, List.length_cons]
    congr 5
    exact flat_congr b _ _ (fun j _ => by congr 1; omega)
theorem flat_get : ∀ (l : List Item) (val : Nat → Value) (j : Nat) (x : Item), l[j]? = some x →
    (flat l val)[j * 4]? = some (.int .i64 x.kind) ∧ (flat l val)[j * 4 + 1]? = some (.int .i64 x.n) ∧ (flat l val)[j * 4 + 2]? = some (.string x.s) ∧ (flat l val)[j * 4 + 3]? = some (val j)
  | [], _, j, x, h => by simp at h
  | y :: r, val, 0, x, h => by simp at h; subst h; simp [flat]
  | y :: r, val, j + 1, x, h => by
    have := flat_get r (fun j => val (j + 1)) j x (by simpa using h)
    simp only [flat]
    rw [show (j + 1) * 4 = j * 4 + 1 + 1 + 1 + 1 by omega, show j * 4 + 1 + 1 + 1 + 1 + 1 = j * 4 + 1 + 1 + 1 + 1 + 1 by rfl]
    exact this
theorem flat_all : ∀ (l : List Item) (val : Nat → Value) (o : Nat) (P : Nat → Value → Prop), (∀ j x, l[j]? = some x → P (o + j * 4) (.int .i64 x.kind) ∧ P (o + j * 4 + 1) (.int .i64 x.n) ∧ P (o + j * 4 + 2) (.string x.s) ∧ P (o + j * 4 + 3) (val j)) →
    ∀ i v, (flat l val)[i]? = some v → P (o + i) v
  | [], _, _, _, _, i, v, h => by simp [flat] at h
  | y :: r, val, o, P, hP, i, v, h => by
    have h0 := hP 0 y rfl
    have ih := flat_all r (fun j => val (j + 1)) (o + 4) P (fun j x hx => by
      have := hP (j + 1) x (by simpa using hx)
      rw [show o + (j + 1) * 4 = o + 4 + j * 4 by omega] at this
      exact this)
    match i, h with
    | 0, h => simp [flat] at h; subst h; simpa using h0.1
    | 1, h => simp [flat] at h; subst h; simpa using h0.2.1
    | 2, h => simp [flat] at h; subst h; simpa using h0.2.2.1
    | 3, h => simp [flat] at h; subst h; simpa using h0.2.2.2
    | i + 4, h =>
      have h' : (flat r fun j => val (j + 1))[i]? = some v := by simpa [flat] using h
      have := ih i v h'
      rwa [show o + 4 + i = o + (i + 4) by omega] at this
theorem flat_set : ∀ (l : List Item) (val : Nat → Value) (j : Nat) (u : Value), (flat l val).set (j * 4 + 3) u = flat l (fun i => if i = j then u else val i)
  | [], _, _, _ => rfl
  | x :: r, val, 0, u => by
    simp only [flat, Nat.zero_mul, Nat.zero_add, List.set_cons_succ, List.set_cons_zero, if_true]
    rw [flat_congr r (fun j => val (j + 1)) (fun j => if j + 1 = 0 then u else val (j + 1)) (fun j _ => by simp)]
  | x :: r, val, j + 1, u => by
    simp only [flat]
    rw [show (j + 1) * 4 + 3 = j * 4 + 3 + 1 + 1 + 1 + 1 by omega]
    simp only [List.set_cons_succ]
    rw [flat_set r (fun j => val (j + 1)) j u]
    simp
theorem flat_one : ∀ (l : List Item) (val : Nat → Value), (∀ j, j < l.length → (val j).oneCell' = true) → ∀ u ∈ flat l val, u.oneCell' = true
  | [], _, _, u, h => by simp [flat] at h
  | x :: r, val, hv, u, h => by
    simp only [flat, List.mem_cons] at h
    rcases h with rfl | rfl | rfl | rfl | h
    · rfl
    · rfl
    · rfl
    · exact hv 0 (by simp)
    · exact flat_one r (fun j => val (j + 1)) (fun j hj => hv (j + 1) (by simpa using hj)) u h

/-- A row of items of the call's own. -/
def OwnR (W : World) (base : Nat) (v : Value) (l : List Item) (val : Nat → Value) : Prop := W.ownsRow base 145 4 v l.length (flat l val) ∧ ∀ j, j < l.length → (val j).oneCell' = true

theorem OwnR.nil (W : World) (base : Nat) (val : Nat → Value) : OwnR W base (.slice none 0 0) [] val := ⟨by simpa [flat] using World.ownsRow_nil W base 145 4, fun j h => by simp at h⟩
theorem OwnR.form {W : World} {base : Nat} {v : Value} {l : List Item} {val : Nat → Value} (h : OwnR W base v l val) : ∃ A cap, v = .slice A l.length cap ∧ l.length ≤ cap := by
  rcases h.1.2 with ⟨rfl, hz⟩ | ⟨g, cap, cur, rfl, _, _, hn, _⟩
  · exact ⟨none, 0, by rw [hz], by omega⟩
  · exact ⟨_, cap, rfl, hn⟩
theorem OwnR.below {W W' : World} {base : Nat} {v : Value} {l : List Item} {val : Nat → Value} (h : OwnR W base v l val) (hb : Below W.heap.size W W') : OwnR W' base v l val := by
  have hlt := h.1.lt
  refine ⟨⟨h.1.1, ?_⟩, h.2⟩
  rcases h.1.2 with h0 | ⟨g, cap, cur, rfl, h1, h2, h3⟩
  · exact .inl h0
  · exact .inr ⟨g, cap, cur, rfl, h1, (hb.block g (hlt g rfl).2).trans h2, h3⟩
theorem OwnR.lower {W : World} {base b' : Nat} {v : Value} {l : List Item} {val : Nat → Value} (h : OwnR W base v l val) (hb : b' ≤ base) : OwnR W b' v l val := by
  refine ⟨⟨h.1.1, ?_⟩, h.2⟩
  rcases h.1.2 with h0 | ⟨g, cap, cur, rfl, h1, h2⟩
  · exact .inl h0
  · exact .inr ⟨g, cap, cur, rfl, by omega, h2⟩
/-- Its items' cells. -/
theorem OwnR.cells {W : World} {base g len cap : Nat} {l : List Item} {val : Nat → Value} (h : OwnR W base (.slice (some ⟨g, 0, none⟩) len cap) l val) (hl : l.length = len) {j : Nat} {x : Item} (hx : l[j]? = some x) :
    Cells4 W g (j * 4) x (val j) ∧ ∀ i, W.frozen? ⟨g, i, none⟩ = false := by
  subst hl
  have hj : j < l.length := (List.getElem?_eq_some_iff.1 hx).1
  obtain ⟨h0, h1, h2, h3⟩ := flat_get l val j x hx
  exact ⟨⟨by rw [h.1.cellAt _ (by omega)]; exact h0, by rw [h.1.cellAt _ (by omega)]; exact h1, by rw [h.1.cellAt _ (by omega)]; exact h2, by rw [h.1.cellAt _ (by omega)]; exact h3⟩, fun i => h.1.frozenAt i⟩
/-- A row of the call's own reads as its items. -/
theorem OwnR.items {S : Nat → Prop} {W : World} {base : Nat} {v : Value} {l : List Item} {val : Nat → Value} (h : OwnR W base v l val) (hS : ∀ b, v.ownBlock = some b → S b) (hk : ∀ j x, l[j]? = some x → Items S W (val j) x.kids) : Items S W v l := by
  rcases h.1.2 with ⟨rfl, hz⟩ | ⟨g, cap, cur, hv, _, _, hn, _⟩
  · exact .nil none 0 l (fun _ => rfl) (List.eq_nil_of_length_eq_zero hz)
  · subst hv
    exact .row g 0 l.length cap l val rfl hn (fun _ => hS g rfl) (fun j x hx => by rw [Nat.zero_add]; exact (h.cells rfl hx).1) hk
/-- A list's value is stored. -/
theorem OwnR.store {W : World} {base g len cap : Nat} {l : List Item} {val : Nat → Value} (h : OwnR W base (.slice (some ⟨g, 0, none⟩) len cap) l val) (hl : l.length = len) (j : Nat) (u : Value) (hu : u.oneCell' = true) :
    OwnR (W.setCell ⟨g, j * 4 + 3, none⟩ u) base (.slice (some ⟨g, 0, none⟩) len cap) l (fun i => if i = j then u else val i) := by
  subst hl
  refine ⟨?_, fun i hi => ?_⟩
  · have := (h.1.stored (j * 4 + 3) u).1
    rw [flat_set] at this
    exact this
  · dsimp only
    split
    · exact hu
    · exact h.2 i hi

theorem info_item : (Tryz.prog.info? 145).map (fun i => (i.zero, i.size, i.bytes)) = some (some (.agg #[.int .i64 0, .int .i64 0, .string ⟨#[]⟩, .slice none 0 0]), 4, 56) := by kernel_rfl

theorem slice_one {A : Option Addr} {len cap : Nat} : (Value.slice A len cap).oneCell' = true := rfl

set_option maxRecDepth 100000 in
/-- Items that lie in a row are appended onto a row of the call's own. -/
theorem run_append_items (w : World) (ty : TypeId) {base : Nat} {v : Value} {l m : List Item} {val u : Nat → Value} (hown : OwnR w base v l val) (b off cap : Nat)
    (hcell : ∀ j x, m[j]? = some x → Cells4 w b (off + j * 4) x (u j)) (hu : ∀ j, j < m.length → (u j).oneCell' = true)
    (hroom : (l.length + m.length) * 56 ≤ 140737488355328) (hbase : base ≤ w.heap.size) :
    ∃ v' w', (Builtin.append_ #[143, 143] ty #[v, .slice (some ⟨b, off, none⟩) m.length cap]).run Tryz.prog w = .ok v' w' ∧ OwnR w' base v' (l ++ m) (fun j => if j < l.length then val j else u (j - l.length)) ∧ w.grownBy w' v.ownBlock ∧ (v'.ownBlock = v.ownBlock ∨ v'.ownBlock = some w.heap.size) := by
  obtain ⟨i0, hi, hz0, hz1, hz2⟩ := info_parts info_item
  have hnews : ∀ j x, (flat m u)[j]? = some x → w.cell? ((⟨b, off, none⟩ : Addr).add j) = some x := fun j x hx => by
    rw [Addr.add_lit]
    exact flat_all m u off (fun i v => w.cell? ⟨b, i, none⟩ = some v) hcell j x hx
  obtain ⟨v', w', hrun, h2, h3, _, h5⟩ := run_append_own_at (P := Tryz.prog) w base 143 ty 145 i0 _ 4 56 Tryz.underlying143 hi hz0 hz1 hz2 rfl (by decide) v l.length (flat l val) hown.1 ⟨b, off, none⟩ m.length cap (flat m u) (flat_length m u) hnews (flat_one m u hu) (by simp only [maxLen]; omega) hroom hbase
  refine ⟨v', w', hrun, ⟨?_, fun j hj => ?_⟩, h3, h5⟩
  · rw [List.length_append, flat_append, flat_congr l _ val (fun j hj => by simp [hj]), flat_congr m _ u (fun j _ => by rw [if_neg (by omega)]; congr 1; omega)]
    exact h2
  · dsimp only
    split
    · rename_i h; exact hown.2 j h
    · rw [List.length_append] at hj; exact hu _ (by omega)

end Go.Proofs.YtdikmlnpclklnaaGreatDoor.Wire

/-
  A row of items that is laid as a literal.
-/
namespace Go.Proofs.YtdikmlnpclklnaaGreatDoor.Wire
open Go Go.RowKit Go.Proofs.YtdikmlnpclklnaaGreatDoor.Law

theorem cell_lit (w : World) (cs : Array Value) (t : TypeId) (i : Nat) (v : Value) (h : cs.toList[i]? = some v) : (w.alloc (.cells cs t)).cell? ⟨w.heap.size, i, none⟩ = some v := by
  unfold World.cell?
  rw [heap_alloc_new]
  rw [Array.getElem?_toList] at h
  exact h

/-- It reads as the items, if their lists' values do. -/
theorem lit_items {S : Nat → Prop} (w : World) (l : List Item) (val : Nat → Value) (cs : Array Value) (n b : Nat) (hb : w.heap.size = b) (hn : l.length = n) (hcs : cs.toList = flat l val) (hS : S b) (hk : ∀ j x, l[j]? = some x → Items S (w.alloc (.cells cs 145)) (val j) x.kids) :
    Items S (w.alloc (.cells cs 145)) (.slice (some ⟨b, 0, none⟩) n n) l := by
  subst hb hn
  refine .row w.heap.size 0 l.length l.length l val rfl (Nat.le_refl _) (fun _ => hS) (fun j x hx => ?_) hk
  obtain ⟨h0, h1, h2, h3⟩ := flat_get l val j x hx
  rw [← hcs] at h0 h1 h2 h3
  rw [Nat.zero_add]
  exact ⟨cell_lit w cs _ _ _ h0, cell_lit w cs _ _ _ h1, cell_lit w cs _ _ _ h2, cell_lit w cs _ _ _ h3⟩

/-- It is a row of the call's own. -/
theorem lit_own (w : World) (l : List Item) (val : Nat → Value) (cs : Array Value) (n b : Nat) (hb : w.heap.size = b) (hn : l.length = n) (hm : n ≤ 1048576) (hcs : cs.toList = flat l val) (h1 : ∀ j, j < l.length → (val j).oneCell' = true) :
    OwnR (w.alloc (.cells cs 145)) b (.slice (some ⟨b, 0, none⟩) n n) l val := by
  subst hb hn
  have hsz : cs.size = l.length * 4 := by
    have := congrArg List.length hcs
    rw [flat_length] at this
    simpa using this
  have h := World.ownsRow_lit (base := w.heap.size) (size := 4) (e := 145) w cs l.length (Nat.le_refl _) (by simp only [maxLen]; omega) hsz
  rw [hcs] at h
  exact ⟨h, h1⟩

theorem Boxed4.low {W W' : World} {b : Nat} {x : Item} {u : Value} (h : Boxed4 W b x u) (hB : Below W.heap.size W W') : Boxed4 W' b x u := (hB.block b (lt_of_some h)).trans h
theorem Boxed4.alloc {W : World} {b : Nat} {x : Item} {u : Value} (h : Boxed4 W b x u) (o : Obj) : Boxed4 (W.alloc o) b x u := h.low ((Below.refl _ _).alloc (Nat.le_refl _) o)

/-- Whatever slice that reads as items is appended onto a row of the call's own. -/
theorem run_append_read (w : World) (ty : TypeId) {S : Nat → Prop} {base : Nat} {v sv : Value} {l m : List Item} {val : Nat → Value} (hown : OwnR w base v l val) (hI : Items S w sv m)
    (hroom : (l.length + m.length) * 56 ≤ 140737488355328) (hbase : base ≤ w.heap.size) :
    ∃ v' w' val', (Builtin.append_ #[143, 143] ty #[v, sv]).run Tryz.prog w = .ok v' w' ∧ OwnR w' base v' (l ++ m) val' ∧ w.grownBy w' v.ownBlock ∧ (v'.ownBlock = v.ownBlock ∨ v'.ownBlock = some w.heap.size) ∧
      (∀ j, j < l.length → val' j = val j) ∧ (∀ j x, m[j]? = some x → Items S w (val' (l.length + j)) x.kids) := by
  obtain ⟨i0, hi, hz0, hz1, hz2⟩ := info_parts info_item
  cases hI with
  | nil A cap m hA hm =>
    subst hm
    cases A with
    | none =>
      obtain rfl := hA rfl
      exact ⟨v, w, val, run_append_owned_none (P := Tryz.prog) (w := w) base 143 ty 145 i0 4 Tryz.underlying143 hi v l.length (flat l val) hown.1, by simpa using hown, ⟨rfl, rfl, rfl, Nat.le_refl _, fun _ _ _ => rfl⟩, .inl rfl, fun _ _ => rfl, fun j x h => by simp at h⟩
    | some a =>
      obtain ⟨v', w', hrun, h2, h3, _, h5⟩ := run_append_own_at (P := Tryz.prog) w base 143 ty 145 i0 _ 4 56 Tryz.underlying143 hi hz0 hz1 hz2 rfl (by decide) v l.length (flat l val) hown.1 a 0 cap [] rfl (fun j u h => by simp at h) (fun u h => by simp at h) (by simp only [maxLen]; omega) (by simpa using hroom) hbase
      exact ⟨v', w', val, hrun, ⟨by simpa using h2, by simpa using hown.2⟩, h3, h5, fun _ _ => rfl, fun j x h => by simp at h⟩
  | row b off len cap m u hl hcap hS hcell hk =>
    subst hl
    have hu : ∀ j, j < m.length → (u j).oneCell' = true := fun j hj => by
      obtain ⟨A, c, h, _⟩ := (hk j _ (List.getElem?_eq_getElem hj)).form
      rw [h]; rfl
    obtain ⟨v', w', hrun, h2, h3, h4⟩ := run_append_items w ty hown b off cap hcell hu hroom hbase
    refine ⟨v', w', _, hrun, h2, h3, h4, fun j hj => by simp [hj], fun j x hx => ?_⟩
    rw [if_neg (by omega), Nat.add_sub_cancel_left]
    exact hk j x hx

end Go.Proofs.YtdikmlnpclklnaaGreatDoor.Wire

/-
  A list of items that grows: its own row, and its items' lists, all in blocks from lo up to hi.
-/
namespace Go.Proofs.YtdikmlnpclklnaaGreatDoor.Wire
open Go Go.RowKit Go.Proofs.YtdikmlnpclklnaaGreatDoor.Law

def Grow (lo hi : Nat) (W : World) (v : Value) (l : List Item) : Prop :=
  hi ≤ W.heap.size ∧ (∀ b, v.ownBlock = some b → b < hi) ∧ ∃ val, OwnR W lo v l val ∧ ∀ j x, l[j]? = some x → Items (fun b => lo ≤ b ∧ b < hi ∧ v.ownBlock ≠ some b) W (val j) x.kids

theorem Grow.nil (W : World) (lo hi : Nat) (h : hi ≤ W.heap.size) : Grow lo hi W (.slice none 0 0) [] := ⟨h, fun b hb => (by cases hb), fun _ => .slice none 0 0, OwnR.nil W lo _, fun j x h => by simp at h⟩
theorem Grow.form {lo hi : Nat} {W : World} {v : Value} {l : List Item} (h : Grow lo hi W v l) : ∃ A cap, v = .slice A l.length cap ∧ l.length ≤ cap := by
  obtain ⟨_, _, val, h1, _⟩ := h; exact h1.form
theorem Grow.items {lo hi : Nat} {W : World} {v : Value} {l : List Item} (h : Grow lo hi W v l) : Items (fun b => lo ≤ b ∧ b < hi) W v l := by
  obtain ⟨_, h0, val, h1, h2⟩ := h
  exact h1.items (fun b hb => ⟨(h1.1.lt b hb).1, h0 b hb⟩) (fun j x hx => (h2 j x hx).mono (fun b hb => ⟨hb.1, hb.2.1⟩))
/-- What lies from lo up to hi stays. -/
theorem Grow.keep {lo hi hi' : Nat} {W W' : World} {v : Value} {l : List Item} (h : Grow lo hi W v l) (hb : ∀ b, lo ≤ b → b < hi → W'.heap[b]? = W.heap[b]?) (hh : hi ≤ hi') (hs : hi' ≤ W'.heap.size) : Grow lo hi' W' v l := by
  obtain ⟨h3, h0, val, h1, h2⟩ := h
  refine ⟨hs, fun b hb => Nat.lt_of_lt_of_le (h0 b hb) hh, val, ⟨⟨h1.1.1, ?_⟩, h1.2⟩, fun j x hx => (h2 j x hx).keep (fun b h => hb b h.1 h.2.1) (fun b h => ⟨h.1, Nat.lt_of_lt_of_le h.2.1 hh, h.2.2⟩)⟩
  rcases h1.1.2 with h4 | ⟨g, cap, cur, rfl, q1, q2, q3⟩
  · exact .inl h4
  · exact .inr ⟨g, cap, cur, rfl, q1, (hb g q1 (h0 g rfl)).trans q2, q3⟩
theorem Grow.below {lo : Nat} {W W' : World} {v : Value} {l : List Item} (h : Grow lo W.heap.size W v l) (hB : Below W.heap.size W W') : Grow lo W'.heap.size W' v l := h.keep (fun b _ hb => hB.block b hb) hB.size (Nat.le_refl _)

/-- An item is put behind: it lies as a literal in a new block, and its list in blocks that aren't the row's own. -/
theorem Grow.append {lo hi : Nat} {W : World} {v : Value} {l : List Item} (h : Grow lo hi W v l) (hlo : lo ≤ hi) (x : Item) (u : Value) (hu : Items (fun b => lo ≤ b ∧ b < W.heap.size ∧ v.ownBlock ≠ some b) W u x.kids) (ty : TypeId) (hroom : (l.length + 1) * 56 ≤ 140737488355328) :
    ∃ v' W', (Builtin.append_ #[143, 143] ty #[v, .slice (some ⟨W.heap.size, 0, none⟩) 1 1]).run Tryz.prog (W.alloc (.cells #[.int .i64 x.kind, .int .i64 x.n, .string x.s, u] 145)) = .ok v' W' ∧ Grow lo W'.heap.size W' v' (l ++ [x]) ∧ W.grownBy W' v.ownBlock ∧
      (v'.ownBlock = v.ownBlock ∨ v'.ownBlock = some (W.heap.size + 1)) := by
  obtain ⟨h3, h0, val, h1, h2⟩ := h
  have hown : OwnR (W.alloc (.cells #[.int .i64 x.kind, .int .i64 x.n, .string x.s, u] 145)) lo v l val := h1.below ((Below.refl _ _).alloc (Nat.le_refl _) _)
  have hlit : Items (fun b => b < W.heap.size + 1) (W.alloc (.cells #[.int .i64 x.kind, .int .i64 x.n, .string x.s, u] 145)) (.slice (some ⟨W.heap.size, 0, none⟩) 1 1) [x] :=
    lit_items W [x] (fun _ => u) _ 1 W.heap.size rfl rfl rfl (by omega) (fun j y hy => by
      match j, hy with
      | 0, hy =>
        simp at hy; subst hy
        exact hu.keep (fun b hb => Below.heap_alloc _ _ _ hb.2.1) (fun b hb => by omega))
  have hou : u.oneCell' = true := by obtain ⟨A, c, hue, _⟩ := hu.form; rw [hue]; rfl
  obtain ⟨v', W', hrun, O', G', hor⟩ := run_append_items (W.alloc (.cells #[.int .i64 x.kind, .int .i64 x.n, .string x.s, u] 145)) ty hown W.heap.size 0 1 (m := [x]) (u := fun _ => u)
    (fun j y hy => by
      match j, hy with
      | 0, hy => simp at hy; subst hy; exact ⟨cell_lit W _ _ _ _ rfl, cell_lit W _ _ _ _ rfl, cell_lit W _ _ _ _ rfl, cell_lit W _ _ _ _ rfl⟩)
    (fun _ _ => hou) hroom (by simp; omega)
  have hB : Below lo W W' := ((Below.refl _ _).alloc (by omega) _).grown G' (by simp; omega) (fun k hk => (hown.1.lt k hk).1)
  have hG : W.grownBy W' v.ownBlock := (World.grownBy_alloc W _ _).trans G'
  have hsz : W.heap.size + 1 ≤ W'.heap.size := by have := G'.size; simpa using this
  refine ⟨v', W', hrun, ⟨Nat.le_refl _, fun b hb => (O'.1.lt b hb).2, _, O', fun j y hy => ?_⟩, hG, by simpa using hor⟩
  have hsep : ∀ b, b < W.heap.size → v.ownBlock ≠ some b → v'.ownBlock ≠ some b := by
    intro b hb hne e
    rcases hor with h4 | h4
    · exact hne (by rw [← h4]; exact e)
    · rw [h4, World.size_alloc] at e; simp only [Option.some.injEq] at e; omega
  by_cases hj : j < l.length
  · rw [List.getElem?_append_left hj] at hy
    rw [if_pos hj]
    exact (h2 j y hy).keep (fun b hb => hG.block b (by omega) (fun e => hb.2.2 e.symm)) (fun b hb => ⟨hb.1, by omega, hsep b (by omega) hb.2.2⟩)
  · rw [List.getElem?_append_right (by omega)] at hy
    rw [if_neg hj]
    have : y = x := by
      match hq : j - l.length, hy with
      | 0, hy => simpa using hy.symm
    subst this
    exact hu.keep (fun b hb => hG.block b hb.2.1 (fun e => hb.2.2 e.symm)) (fun b hb => ⟨hb.1, by omega, hsep b hb.2.1 hb.2.2⟩)

end Go.Proofs.YtdikmlnpclklnaaGreatDoor.Wire

/-
  What the document's own reading of an item leaves: the pieces.
-/
namespace Go.Proofs.YtdikmlnpclklnaaGreatDoor.Wire
open Go Go.RowKit Go.Proofs.YtdikmlnpclklnaaGreatDoor.Law

/-- An item as a value. -/
def aggOf (x : Item) (u : Value) : Value := .agg #[.int .i64 x.kind, .int .i64 x.n, .string x.s, u]
abbrev zeroItem : Value := .agg #[.int .i64 0, .int .i64 0, .string ⟨#[]⟩, .slice none 0 0]
abbrev zeroBox : Obj := .cells #[.int .i64 0, .int .i64 0, .string ⟨#[]⟩, .slice none 0 0] 145

/-- What item leaves. -/
def ItemRead (w : World) (rb n₀ : Nat) : Except Nat (Item × Nat × List Nat) → Ending → World → Prop
  | .ok (x, c', r), e, W => ∃ u B, e = .returned (aggOf x u) ∧ w.grownBy W (some rb) ∧ Rd W rb B c' 0 ∧ Bytes n₀ W B r ∧ Items (fun b => w.heap.size ≤ b ∧ b < W.heap.size) W u x.kids
  | .error k, e, W => ∃ B c', e = .returned zeroItem ∧ w.grownBy W (some rb) ∧ Rd W rb B c' k

theorem box4 {W : World} {b : Nat} {x0 x1 x2 x3 : Value} {t : TypeId} (h : W.heap[b]? = some (Obj.cells #[x0, x1, x2, x3] t)) :
    W.cell? ⟨b, 0, none⟩ = some x0 ∧ W.cell? ⟨b, 1, none⟩ = some x1 ∧ W.cell? ⟨b, 2, none⟩ = some x2 ∧ W.cell? ⟨b, 3, none⟩ = some x3 ∧ W.frozen? ⟨b, 0, none⟩ = false ∧ W.frozen? ⟨b, 1, none⟩ = false ∧ W.frozen? ⟨b, 2, none⟩ = false ∧ W.frozen? ⟨b, 3, none⟩ = false := by
  refine ⟨?_, ?_, ?_, ?_, ?_, ?_, ?_, ?_⟩ <;> simp [World.cell?, World.frozen?, h]
theorem rdNum_err : ∀ (bs : List Nat) (i n k : Nat), rdNum i n bs = .error k → k ≠ 0
  | [], i, n, k, h => by simp [rdNum] at h; omega
  | x :: bs, i, n, k, h => by
    rw [rdNum] at h
    split at h
    · simp at h; omega
    · split at h
      · cases h
      · exact rdNum_err bs _ _ _ h

theorem grown_put {w W : World} {rb b i : Nat} (h : w.grownBy W (some rb)) (hb : w.heap.size ≤ b) (v : Value) : w.grownBy (W.setCell ⟨b, i, none⟩ v) (some rb) :=
  ⟨h.os, h.tape, h.output, by have := h.size; simpa [World.setCell] using this, fun k hk hne => (Below.heap_setCell _ _ _ _ (by show k ≠ b; omega)).trans (h.block k hk hne)⟩
theorem grown_put4 {w W : World} {rb b : Nat} (h : w.grownBy W (some rb)) (hb : w.heap.size ≤ b) (v0 v1 v2 v3 : Value) : w.grownBy ((((W.setCell ⟨b, 0, none⟩ v0).setCell ⟨b, 1, none⟩ v1).setCell ⟨b, 2, none⟩ v2).setCell ⟨b, 3, none⟩ v3) (some rb) :=
  grown_put (grown_put (grown_put (grown_put h hb _) hb _) hb _) hb _
theorem rd_put {W : World} {rb b i c e : Nat} {B : Value} (h : Rd W rb B c e) (hb : rb ≠ b) (v : Value) : Rd (W.setCell ⟨b, i, none⟩ v) rb B c e := (Below.heap_setCell _ _ _ _ hb).trans h
theorem rd_put4 {W : World} {rb b c e : Nat} {B : Value} (h : Rd W rb B c e) (hb : rb ≠ b) (v0 v1 v2 v3 : Value) : Rd ((((W.setCell ⟨b, 0, none⟩ v0).setCell ⟨b, 1, none⟩ v1).setCell ⟨b, 2, none⟩ v2).setCell ⟨b, 3, none⟩ v3) rb B c e :=
  rd_put (rd_put (rd_put (rd_put h hb _) hb _) hb _) hb _
theorem by_put {W : World} {n₀ b i : Nat} {B : Value} {bs : List Nat} (h : Bytes n₀ W B bs) (hb : n₀ ≤ b) (v : Value) : Bytes n₀ (W.setCell ⟨b, i, none⟩ v) B bs := Bytes.below ((Below.refl n₀ W).setCell (p := ⟨b, i, none⟩) hb v) h
theorem by_put4 {W : World} {n₀ b : Nat} {B : Value} {bs : List Nat} (h : Bytes n₀ W B bs) (hb : n₀ ≤ b) (v0 v1 v2 v3 : Value) : Bytes n₀ ((((W.setCell ⟨b, 0, none⟩ v0).setCell ⟨b, 1, none⟩ v1).setCell ⟨b, 2, none⟩ v2).setCell ⟨b, 3, none⟩ v3) B bs :=
  by_put (by_put (by_put (by_put h hb _) hb _) hb _) hb _

theorem err_early {w : World} {rb n₀ c : Nat} {B : Value} (hR : Rd w rb B c 0) (k : Nat) : ItemRead w rb n₀ (.error k) (.returned zeroItem) (((w.setCell ⟨rb, 1, none⟩ (.int .i64 ((c : Int) + 1))).setCell ⟨rb, 2, none⟩ (.int .i64 (k : Nat))).alloc zeroBox) :=
  ⟨B, c + 1, rfl, grown_alloc (grown_set (i := 2) (grown_set (i := 1) (grown_refl _ _) _) _) _, Rd.below ((hR.set1 (c + 1) rfl).set2 k rfl) ((Below.refl _ _).alloc (Nat.le_refl _) _)⟩

theorem err_boxed {w : World} {rb n₀ c : Nat} {B : Value} (hR : Rd w rb B c 0) (k : Nat) (o : Obj) : ItemRead w rb n₀ (.error k) (.returned zeroItem) ((((w.setCell ⟨rb, 1, none⟩ (.int .i64 ((c : Int) + 1))).setCell ⟨rb, 2, none⟩ (.int .i64 (k : Nat))).alloc zeroBox).alloc o) :=
  ⟨B, c + 1, rfl, grown_alloc (grown_alloc (grown_set (i := 2) (grown_set (i := 1) (grown_refl _ _) _) _) _) _, Rd.below ((hR.set1 (c + 1) rfl).set2 k rfl) (((Below.refl _ _).alloc (Nat.le_refl _) _).alloc (by simp) _)⟩


theorem rdI_count : ∀ (b c : Nat) (bs : List Nat) (x : Item) (c' : Nat) (r : List Nat), rdI b c bs = .ok (x, c', r) → c < c' ∧ c' ≤ 4096 ∧ r.length ≤ bs.length := by
  intro b
  induction b with
  | zero => intro c bs x c' r h; simp [rdI] at h
  | succ b ih =>
    have hL : ∀ (n c : Nat) (bs : List Nat) (acc l : List Item) (c' : Nat) (r : List Nat), c ≤ 4096 → rdL (rdI b) n c bs acc = .ok (l, c', r) → c ≤ c' ∧ c' ≤ 4096 ∧ r.length ≤ bs.length := by
      intro n
      induction n with
      | zero => intro c bs acc l c' r hc h; simp only [rdL, Except.ok.injEq, Prod.mk.injEq] at h; obtain ⟨_, rfl, rfl⟩ := h; exact ⟨Nat.le_refl _, hc, Nat.le_refl _⟩
      | succ n ihn =>
        intro c bs acc l c' r hc h
        rw [rdL] at h
        match hq : rdI b c bs with
        | .error e => rw [hq] at h; cases h
        | .ok (y, c2, r2) =>
          rw [hq] at h
          have h1 := ih c bs y c2 r2 hq
          have h2 := ihn c2 r2 _ l c' r h1.2.1 h
          omega
    intro c bs x c' r h
    rw [rdI] at h
    split at h
    · cases h
    · rename_i hc
      match hh : rdHead bs with
      | .error e => rw [hh] at h; cases h
      | .ok (k, n, r1) =>
        have hlr : r1.length ≤ bs.length := by
          match bs, hh with
          | [], hh => simp [rdHead] at hh
          | q :: bs, hh =>
            rw [rdHead] at hh
            split at hh
            · cases hh
            · match hz : rdNum 0 0 bs with
              | .error e => rw [hz] at hh; cases hh
              | .ok (m, r2) =>
                rw [hz] at hh
                simp only at hh
                split at hh
                · cases hh
                · simp only [Except.ok.injEq, Prod.mk.injEq] at hh
                  obtain ⟨_, _, rfl⟩ := hh
                  have := (rdNum_length bs 0 0 m r2 hz).1
                  simp; omega
        rw [hh] at h
        simp only at h
        split at h
        · simp only [Except.ok.injEq, Prod.mk.injEq] at h; obtain ⟨_, rfl, rfl⟩ := h; omega
        · split at h
          · split at h
            · cases h
            · simp only [Except.ok.injEq, Prod.mk.injEq] at h; obtain ⟨_, rfl, rfl⟩ := h; simp; omega
          · match hq : rdL (rdI b) n (c + 1) r1 [] with
            | .error e => rw [hq] at h; cases h
            | .ok (l, c2, r2) =>
              rw [hq] at h
              simp only [Except.ok.injEq, Prod.mk.injEq] at h
              obtain ⟨_, rfl, rfl⟩ := h
              have := hL n (c + 1) r1 [] l c2 r2 (by omega) hq
              omega

/-- What lies while an item is read, once its number is there. -/
def Read1 (w W : World) (rb n₀ c : Nat) (A1 : Option Addr) (lr cap1 : Nat) (r : List Nat) (o : Obj) : Prop :=
  Rd W rb (.slice A1 lr cap1) (c + 1) 0 ∧ Bytes n₀ W (.slice A1 lr cap1) r ∧ W.heap[w.heap.size]? = some zeroBox ∧ W.heap[w.heap.size + 1]? = some o ∧ w.grownBy W (some rb) ∧ W.heap.size = w.heap.size + 2
theorem read1 {w : World} {rb n₀ c : Nat} {B : Value} (hR : Rd w rb B c 0) (hn : n₀ ≤ rb) {A1 : Option Addr} {lr cap1 : Nat} {r : List Nat} (hB1 : Bytes n₀ w (.slice A1 lr cap1) r) {v : Value} (hv : v = .int .i64 ((c : Int) + 1)) (o : Obj) :
    Read1 w ((((w.setCell ⟨rb, 1, none⟩ v).setCell ⟨rb, 0, none⟩ (.slice A1 lr cap1)).alloc zeroBox).alloc o) rb n₀ c A1 lr cap1 r o := by
  have hrb := lt_of_some hR
  have hsz : ((w.setCell ⟨rb, 1, none⟩ v).setCell ⟨rb, 0, none⟩ (.slice A1 lr cap1)).heap.size = w.heap.size := by simp [World.setCell]
  refine ⟨Rd.below ((hR.set1 (c + 1) hv).set0 (.slice A1 lr cap1)) (((Below.refl _ _).alloc (Nat.le_refl _) _).alloc (by simp) _), ?_, ?_, ?_, ?_, ?_⟩
  · exact Bytes.below ((((((Below.refl n₀ w).setCell (p := ⟨rb, 1, none⟩) hn v).setCell (p := ⟨rb, 0, none⟩) hn (.slice A1 lr cap1))).alloc (by rw [hsz]; omega) _).alloc (by simp [hsz]; omega) _) hB1
  · have h := heap_alloc_new ((w.setCell ⟨rb, 1, none⟩ v).setCell ⟨rb, 0, none⟩ (.slice A1 lr cap1)) zeroBox
    rw [hsz] at h
    rw [Below.heap_alloc _ _ _ (by simp [hsz])]; exact h
  · have h := heap_alloc_new (((w.setCell ⟨rb, 1, none⟩ v).setCell ⟨rb, 0, none⟩ (.slice A1 lr cap1)).alloc zeroBox) o
    rw [World.size_alloc, hsz] at h
    exact h
  · exact grown_alloc (grown_alloc (grown_set (i := 0) (grown_set (i := 1) (grown_refl _ _) _) _) _) _
  · rw [World.size_alloc, World.size_alloc, hsz]

end Go.Proofs.YtdikmlnpclklnaaGreatDoor.Wire
