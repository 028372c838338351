/-
  The document's own reading of a number.
-/
import Derived.Test.YtffehnojcajhiaaWireRead
import Derived.Test.YtffehnojcajhiaaWireCount
import Derived.Laws.Bits64
namespace Go.Proofs.Ytffehnojcajhiaa.Wire
open Go Go.RowKit Go.Proofs.Ytffehnojcajhiaa.Law

/-- The reader's block: what is left, the count, the error. -/
def Rd (W : World) (rb : Nat) (B : Value) (c e : Nat) : Prop := W.heap[rb]? = some (Obj.cells #[B, .int .i64 (c : Nat), .int .i64 (e : Nat)] 92 (0, 0))
theorem Rd.cells {W : World} {rb c e : Nat} {B : Value} (h : Rd W rb B c e) : W.cell? ⟨rb, 0, none⟩ = some B ∧ W.cell? ⟨rb, 1, none⟩ = some (.int .i64 (c : Nat)) ∧ W.cell? ⟨rb, 2, none⟩ = some (.int .i64 (e : Nat)) ∧ W.frozen? ⟨rb, 0, none⟩ = false ∧ W.frozen? ⟨rb, 1, none⟩ = false ∧ W.frozen? ⟨rb, 2, none⟩ = false := by
  unfold Rd at h
  refine ⟨?_, ?_, ?_, ?_, ?_, ?_⟩ <;> simp [World.cell?, World.frozen?, h]
theorem Rd.below {W W' : World} {rb c e : Nat} {B : Value} (h : Rd W rb B c e) (hB : Below W.heap.size W W') : Rd W' rb B c e := (hB.block rb (lt_of_some h)).trans h
theorem Rd.set0 {W : World} {rb c e : Nat} {B : Value} (h : Rd W rb B c e) (v : Value) : Rd (W.setCell ⟨rb, 0, none⟩ v) rb v c e := by
  unfold Rd at h ⊢
  simp [World.setCell, Array.getElem?_modify, h]
theorem Rd.set1 {W : World} {rb c e : Nat} {B : Value} (h : Rd W rb B c e) (c' : Nat) {v : Value} (hv : v = .int .i64 (c' : Nat)) : Rd (W.setCell ⟨rb, 1, none⟩ v) rb B c' e := by
  subst hv
  unfold Rd at h ⊢
  simp [World.setCell, Array.getElem?_modify, h]
theorem Rd.set2 {W : World} {rb c e : Nat} {B : Value} (h : Rd W rb B c e) (e' : Nat) {v : Value} (hv : v = .int .i64 (e' : Nat)) : Rd (W.setCell ⟨rb, 2, none⟩ v) rb B c e' := by
  subst hv
  unfold Rd at h ⊢
  simp [World.setCell, Array.getElem?_modify, h]

/-- What is left behind k bytes. -/
def cutAt (A : Option Addr) (len cap k : Nat) : Value := if cap = k then .slice A 0 0 else match A with
  | some ⟨b, off, _⟩ => .slice (some ⟨b, off + k, none⟩) (len - k) (cap - k)
  | none => .slice none 0 0
theorem bytes_cut {n₀ : Nat} {W : World} {A : Option Addr} {len cap k : Nat} {bs : List Nat} (h : Bytes n₀ W (.slice A len cap) bs) (hk : k ≤ len) (hp : 0 < len) : Bytes n₀ W (cutAt A len cap k) (bs.drop k) := by
  obtain ⟨b, off, rfl, hb, hc⟩ := h.cells hp
  have hcap := h.capOk
  have h256 := h.lt
  have hlen : bs.length = len := by
    obtain ⟨A', c', e, _⟩ := h
    simp only [Value.slice.injEq] at e
    omega
  unfold cutAt
  split
  · rename_i hck
    have : bs.drop k = [] := List.drop_of_length_le (by omega)
    rw [this]
    exact ⟨_, 0, rfl, Nat.le_refl _, fun _ => rfl, by simp, fun h => (by simp at h)⟩
  · have hl2 : (bs.drop k).length = len - k := by rw [List.length_drop, hlen]
    refine ⟨_, cap - k, by rw [hl2], by omega, fun h => (by cases h), fun x hx => h256 x (List.mem_of_mem_drop hx), fun hp2 => ⟨b, off + k, rfl, hb, fun j hj => ?_⟩⟩
    rw [hl2] at hj
    rw [show off + k + j = off + (k + j) by omega, hc (k + j) (by omega)]
    congr 3
    simp [List.getD, List.getElem?_drop]

/-- What number leaves. -/
def Numbered (w : World) (rb n₀ c : Nat) (B0 : Value) : Except Nat (Nat × List Nat) → Ending → World → Prop
  | .ok (m, r), e, W => e = .returned (.int .u64 (m : Nat)) ∧ w.grownBy W (some rb) ∧ ∃ B, Rd W rb B c 0 ∧ Bytes n₀ W B r
  | .error k, e, W => e = .returned (.int .u64 0) ∧ w.grownBy W (some rb) ∧ Rd W rb B0 c k

set_option maxRecDepth 100000 in
set_option maxHeartbeats 4000000 in
theorem refnumber_calls (rb n₀ c : Nat) (B : Value) (bs : List Nat) (hlen0 : bs.length ≤ 65536) (w : World) (hR : Rd w rb B c 0) (hI : Bytes n₀ w B bs) (hn : n₀ ≤ rb) :
    Calls Try.prog 63 #[.pointer (some ⟨rb, 0, none⟩)] w (Numbered w rb n₀ c B (rdNum 0 0 bs)) := by
  obtain ⟨A, cap, rfl⟩ := hI.form
  obtain ⟨len, hlen⟩ : ∃ len, bs.length = len := ⟨_, rfl⟩
  obtain ⟨R, hRR⟩ : ∃ R, rdNum 0 0 bs = R := ⟨_, rfl⟩
  have hcap := hI.capOk
  rw [hRR]
  rw [hlen] at hI hlen0 hR hcap ⊢
  obtain ⟨r0, r1, r2, z0, z1, z2⟩ := hR.cells
  have HR := Lib.hid hR
  have HI := Lib.hid hI
  have HL := Lib.hid hlen
  have HRR := Lib.hid hRR
  clear hR hI hlen hRR
  go_enter Try.func63, Try.ntmps63
  go_wp2
  go_loopw [3, 4, 5] (fun a p i wr => ∃ k n : Nat, i = .int .i64 k ∧ a = .int .u64 (n : Nat) ∧ p = .int .u64 ((128 ^ k : Nat) : Int) ∧ k ≤ len ∧ k ≤ 9 ∧ n < 128 ^ k ∧ rdNum k n (bs.drop k) = R ∧ w = wr) (fun _ _ i _ => len - (intOf i).toNat)
  case atStart => exact ⟨0, 0, rfl, rfl, rfl, Nat.zero_le _, by omega, by decide, by rw [List.drop_zero, HRR.out], rfl⟩
  case round =>
    obtain ⟨k, n, rfl, rfl, rfl, hk, hk9, hnk, h1, rfl⟩ := hrel
    by_cases hlt : k < len
    · obtain ⟨x, hx⟩ : ∃ x, bs[k]? = some x := ⟨_, List.getElem?_eq_getElem (by rw [HL.out]; exact hlt)⟩
      obtain ⟨b, off, rfl, hb, hc⟩ := HI.out.cells (by omega)
      have hck := hc k hlt
      have hxd : bs.getD k 0 = x := by simp [List.getD, hx]
      have hx256 : x < 256 := HI.out.lt x (List.mem_of_getElem? hx)
      rw [hxd] at hck
      have hd : bs.drop k = x :: bs.drop (k + 1) := drop_get hx
      rw [hd, rdNum] at h1
      have hpl := pow128_le hk9
      obtain ⟨P, hP⟩ : ∃ P, 128 ^ k = P := ⟨_, rfl⟩
      rw [hP] at h1 hnk hpl ⊢
      have HP := Lib.hid hP
      have HNK := Lib.hid hnk
      have hne : ¬ b = rb := by omega
      have hkI : (k : Int) ≤ 9 := by omega
      have hxI : (x : Int) < 256 := by omega
      by_cases hbad : (k = 9 ∧ 1 < x) ∨ (0 < k ∧ x = 0)
      · rw [if_pos hbad] at h1
        have H1 := Lib.hid h1
        clear hc hxd h1 hd hP hnk
        rcases hbad with ⟨rfl, hx1⟩ | ⟨hk0, rfl⟩
        · have hx1I : 1 < (x : Int) := by omega
          go_wp2
          go_ret
          obtain rfl := H1.out
          exact ⟨rfl, grown_set (i := 2) (grown_refl _ _) _, HR.out.set2 3 rfl⟩
        · have hk0I : 0 < (k : Int) := by omega
          by_cases h9 : k = 9
          · subst h9
            go_wp2
            go_ret
            obtain rfl := H1.out
            exact ⟨rfl, grown_set (i := 2) (grown_refl _ _) _, HR.out.set2 3 rfl⟩
          · go_wp2
            all_goals
              go_ret
              obtain rfl := H1.out
              exact ⟨rfl, grown_set (i := 2) (grown_refl _ _) _, HR.out.set2 3 rfl⟩
      · rw [if_neg hbad] at h1
        have hdb := digit_bound (k := k) (x := x) (n := n) hk9 (fun h9 => by
          rcases Nat.lt_or_ge 1 x with h2 | h2
          · exact absurd (.inl ⟨h9, h2⟩) hbad
          · exact h2) (by rw [hP]; exact hnk)
        rw [hP] at hdb
        have hpr : ((x : Int) % 128) * (P : Int) = ((x % 128 * P : Nat) : Int) := by simp
        obtain ⟨pr, hpr0⟩ : ∃ pr, x % 128 * P = pr := ⟨_, rfl⟩
        rw [hpr0] at hpr hdb h1
        have hprb : pr < 18446744073709551616 := by omega
        have hb9 : k = 9 → x ≤ 1 := fun h9 => by
          rcases Nat.lt_or_ge 1 x with h2 | h2
          · exact absurd (.inl ⟨h9, h2⟩) hbad
          · exact h2
        have hb0 : 0 < k → ¬ x = 0 := fun h e => hbad (.inr ⟨h, e⟩)
        have HDB := Lib.hid hdb
        have H1 := Lib.hid h1
        clear hbad hdb h1 hc hxd hd hP hnk
        by_cases hsmall : x < 128
        · have hsI : (x : Int) < 128 := by omega
          have hcutk : k + 1 ≤ len := by omega
          have hB' := bytes_cut HI.out hcutk (by omega)
          have HB' := Lib.hid hB'
          have hval : IntKind.u64.wrap ((n : Int) + (pr : Int)) = ((n + pr : Nat) : Int) := by rw [IntKind.wrap_u64]; have := HDB.out.1; omega
          have HVAL := Lib.hid hval
          have hz1 : ((k : Int) + 1).toNat = k + 1 := by omega
          clear hB' hval
          have hRR : R = .ok (n + pr, bs.drop (k + 1)) := by rw [← H1.out, if_pos hsmall]
          have HRR := Lib.hid hRR
          clear hRR
          by_cases hck1 : cap = k + 1
          · have hB2 : Bytes n₀ w (.slice (some ⟨b, off, none⟩) (len - (k + 1)) 0) (bs.drop (k + 1)) := by have := HB'.out; unfold cutAt at this; rw [if_pos hck1] at this; rwa [show len - (k + 1) = 0 by omega]
            have HB2 := Lib.hid hB2
            clear hB2
            by_cases h9 : k = 9
            · have hx1 := hb9 h9
              have hx1I : ¬ 1 < (x : Int) := by omega
              have hx0I : ¬ (x : Int) = 0 := by have := hb0 (by omega); omega
              subst h9
              go_wp2
              go_ret
              rw [HRR.out]
              exact ⟨ret_int HVAL.out, grown_set (i := 0) (grown_refl _ _) _, _, HR.out.set0 _, Bytes.below ((Below.refl n₀ w).setCell (p := ⟨rb, 0, none⟩) hn _) HB2.out⟩
            · by_cases hk0 : k = 0
              · have hk0I : ¬ 0 < (k : Int) := by omega
                have h9I : ¬ (k : Int) = 9 := by omega
                clear hk0
                go_wp2
                go_ret
                rw [HRR.out]
                exact ⟨ret_int HVAL.out, grown_set (i := 0) (grown_refl _ _) _, _, HR.out.set0 _, Bytes.below ((Below.refl n₀ w).setCell (p := ⟨rb, 0, none⟩) hn _) HB2.out⟩
              · have hk0I : 0 < (k : Int) := by omega
                have h9I : ¬ (k : Int) = 9 := by omega
                have hx0I : ¬ (x : Int) = 0 := by have := hb0 (by omega); omega
                go_wp2
                go_ret
                rw [HRR.out]
                exact ⟨ret_int HVAL.out, grown_set (i := 0) (grown_refl _ _) _, _, HR.out.set0 _, Bytes.below ((Below.refl n₀ w).setCell (p := ⟨rb, 0, none⟩) hn _) HB2.out⟩
          · have hB2 : Bytes n₀ w (.slice (some ⟨b, off + (k + 1), none⟩) (len - (k + 1)) (cap - (k + 1))) (bs.drop (k + 1)) := by have := HB'.out; unfold cutAt at this; rwa [if_neg hck1] at this
            have HB2 := Lib.hid hB2
            clear hB2
            by_cases h9 : k = 9
            · have hx1 := hb9 h9
              have hx1I : ¬ 1 < (x : Int) := by omega
              have hx0I : ¬ (x : Int) = 0 := by have := hb0 (by omega); omega
              subst h9
              go_wp2
              go_ret
              rw [HRR.out]
              exact ⟨ret_int HVAL.out, grown_set (i := 0) (grown_refl _ _) _, _, HR.out.set0 _, Bytes.below ((Below.refl n₀ w).setCell (p := ⟨rb, 0, none⟩) hn _) HB2.out⟩
            · by_cases hk0 : k = 0
              · have hk0I : ¬ 0 < (k : Int) := by omega
                have h9I : ¬ (k : Int) = 9 := by omega
                clear hk0
                go_wp2
                go_ret
                rw [HRR.out]
                exact ⟨ret_int HVAL.out, grown_set (i := 0) (grown_refl _ _) _, _, HR.out.set0 _, Bytes.below ((Below.refl n₀ w).setCell (p := ⟨rb, 0, none⟩) hn _) HB2.out⟩
              · have hk0I : 0 < (k : Int) := by omega
                have h9I : ¬ (k : Int) = 9 := by omega
                have hx0I : ¬ (x : Int) = 0 := by have := hb0 (by omega); omega
                go_wp2
                go_ret
                rw [HRR.out]
                exact ⟨ret_int HVAL.out, grown_set (i := 0) (grown_refl _ _) _, _, HR.out.set0 _, Bytes.below ((Below.refl n₀ w).setCell (p := ⟨rb, 0, none⟩) hn _) HB2.out⟩
        · have hsI : ¬ (x : Int) < 128 := by omega
          have hk8 : ¬ k = 9 := fun h9 => by have := hb9 h9; omega
          have hk8I : ¬ (k : Int) = 9 := by omega
          have hx0 : ¬ (x : Int) = 0 := by omega
          go_wp2
          all_goals
            go_roundw
            case rel =>
              refine ⟨k + 1, n + pr, by go_num, ?_, ?_, by omega, by omega, HDB.out.2 (by omega), ?_, trivial⟩
              · rw [IntKind.wrap_u64]; congr 1; have := HDB.out.1; omega
              · have e : 128 ^ (k + 1) = P * 128 := by rw [Nat.pow_succ, HP.out]
                have hp8 : P ≤ 72057594037927936 := by
                  rw [← HP.out]
                  have h8 : 128 ^ k ≤ 128 ^ 8 := Nat.pow_le_pow_right (by decide) (by omega)
                  have e8 : 128 ^ 8 = 72057594037927936 := by decide
                  omega
                rw [e, IntKind.wrap_u64]; congr 1; omega
              · have := H1.out; rw [if_neg hsmall] at this; exact this
            case measure => simp [intOf]; omega
    · obtain rfl : k = len := by omega
      rw [List.drop_of_length_le (by rw [HL.out]; exact Nat.le_refl _), rdNum] at h1
      have H1 := Lib.hid h1
      clear h1
      go_wp2
      go_ret
      obtain rfl := H1.out
      exact ⟨rfl, grown_set (i := 2) (grown_refl _ _) _, HR.out.set2 5 rfl⟩

end Go.Proofs.Ytffehnojcajhiaa.Wire
