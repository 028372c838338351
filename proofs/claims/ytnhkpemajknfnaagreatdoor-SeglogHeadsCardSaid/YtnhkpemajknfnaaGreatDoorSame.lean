/-
  What the statements' own helpers do with bytes: Same, Room, Kept.
-/
import Derived.Test.YtnhkpemajknfnaaGreatDoorOps
import Derived.Laws.IdiomStrings
import Derived.OwnWalk
import Derived.Lib.SlicesS
import Derived.Test.YtnhkpemajknfnaaGreatDoorChecked
namespace Go.Proofs.YtnhkpemajknfnaaGreatDoor.Law
open Go Go.RowKit

/-- The bytes as a string. -/
def str (bs : List Nat) : ByteArray := ⟨(bs.map UInt8.ofNat).toArray⟩

theorem str_inj {a b : List Nat} (ha : ∀ x ∈ a, x < 256) (hb : ∀ x ∈ b, x < 256) (h : str a = str b) : a = b := by
  unfold str at h
  have h1 : (a.map UInt8.ofNat).toArray = (b.map UInt8.ofNat).toArray := by injection h
  have h2 : a.map UInt8.ofNat = b.map UInt8.ofNat := by simpa using h1
  have h3 : ∀ l : List Nat, (∀ x ∈ l, x < 256) → (l.map UInt8.ofNat).map UInt8.toNat = l := by
    intro l hl
    rw [List.map_map]
    conv => rhs; rw [← List.map_id l]
    apply List.map_congr_left
    intro x hx
    have := hl x hx
    simp [Nat.mod_eq_of_lt this]
  rw [← h3 a ha, ← h3 b hb, h2]

theorem run_string_bytes {P : Program} (w : World) {src dst e : TypeId} (hs : P.underlying src = some (.slice e)) (he : P.underlying e = some (.int .u8)) (hd : P.underlying dst = some .string) {n : Nat} {sv : Value} {bs : List Nat} (hI : Bytes n w sv bs) :
    (convert src dst sv).run P w = .ok (.string (str bs)) w := by
  obtain ⟨A, cap, rfl, _, hA, h256, hc⟩ := hI
  cases A with
  | none =>
    have hb0 : bs.length = 0 := by
      rcases Nat.eq_zero_or_pos bs.length with h0 | h0
      · exact h0
      · obtain ⟨b, off, he, _⟩ := hc h0
        cases he
    obtain rfl : bs = [] := List.length_eq_zero_iff.1 hb0
    obtain rfl : cap = 0 := hA rfl
    exact (run_convert_bytes_string w src dst e none 0 0 hs he hd).trans rfl
  | some a =>
    have h := run_convert_bytes_back (P := P) w src dst e a cap (bs.map UInt8.ofNat) hs he hd (fun j hj => by
      rw [List.length_map] at hj
      obtain ⟨b, off, he, _, hcell⟩ := hc (by omega)
      obtain rfl : a = ⟨b, off, none⟩ := by simpa using he
      rw [Addr.add_lit, hcell j hj]
      have e1 : bs.getD j 0 = bs[j] := by simp [List.getD, hj]
      have h1 : bs[j] < 256 := h256 _ (List.getElem_mem _)
      simp only [List.getElem_map, UInt8.toNat_ofNat']
      rw [e1, Nat.mod_eq_of_lt h1])
    rw [List.length_map] at h
    exact h

set_option maxHeartbeats 1000000 in
/-- The same bytes: true. -/
theorem same_true (sa sb : Value) (bs : List Nat) (w : World) {n m : Nat} (hA : Bytes n w sa bs) (hB : Bytes m w sb bs) :
    Calls Tryz.prog 17 #[sa, sb] w fun e W' => e = .returned (.bool true) ∧ W' = w := by
  have c1 := run_string_bytes (P := Tryz.prog) w Tryz.underlying29 Tryz.underlying5 Tryz.underlying9 hA
  have c2 := run_string_bytes (P := Tryz.prog) w Tryz.underlying29 Tryz.underlying5 Tryz.underlying9 hB
  obtain ⟨A, ca, rfl⟩ := hA.form
  obtain ⟨B, cb, rfl⟩ := hB.form
  obtain ⟨l, hl⟩ : ∃ l, bs.length = l := ⟨_, rfl⟩
  rw [hl] at c1 c2 ⊢
  clear hl hA hB
  go_enter Tryz.func17, Tryz.ntmps17
  go_wp2
  go_ret
  exact ⟨rfl, rfl⟩

set_option maxHeartbeats 1000000 in
/-- Other bytes: false. -/
theorem same_false (sa sb : Value) (xs bs : List Nat) (w : World) {n m : Nat} (hA : Bytes n w sa xs) (hB : Bytes m w sb bs) (hne : xs ≠ bs) :
    Calls Tryz.prog 17 #[sa, sb] w fun e W' => e = .returned (.bool false) ∧ W' = w := by
  have c1 := run_string_bytes (P := Tryz.prog) w Tryz.underlying29 Tryz.underlying5 Tryz.underlying9 hA
  have c2 := run_string_bytes (P := Tryz.prog) w Tryz.underlying29 Tryz.underlying5 Tryz.underlying9 hB
  have hs : ((str xs).toList == (str bs).toList) = false := (Lib.bytes_beq_false_iff _ _).2 fun h => hne (str_inj hA.lt hB.lt h)
  obtain ⟨A, ca, rfl⟩ := hA.form
  obtain ⟨B, cb, rfl⟩ := hB.form
  obtain ⟨l, hl⟩ : ∃ l, xs.length = l := ⟨_, rfl⟩
  obtain ⟨l2, hl2⟩ : ∃ l, bs.length = l := ⟨_, rfl⟩
  rw [hl] at c1 ⊢
  rw [hl2] at c2 ⊢
  obtain ⟨S1, e1⟩ : ∃ s, str xs = s := ⟨_, rfl⟩
  obtain ⟨S2, e2⟩ : ∃ s, str bs = s := ⟨_, rfl⟩
  rw [e1] at c1 hs
  rw [e2] at c2 hs
  clear hl hl2 hA hB hne e1 e2
  go_enter Tryz.func17, Tryz.ntmps17
  go_wp2
  go_ret
  exact ⟨rfl, rfl⟩

theorem same_calls (sa sb : Value) (xs bs : List Nat) (w : World) {n m : Nat} (hA : Bytes n w sa xs) (hB : Bytes m w sb bs) :
    Calls Tryz.prog 17 #[sa, sb] w fun e W' => e = .returned (.bool (decide (xs = bs))) ∧ W' = w := by
  by_cases h : xs = bs
  · subst h
    rw [decide_eq_true rfl]
    exact same_true sa sb xs w hA hB
  · rw [decide_eq_false h]
    exact same_false sa sb xs bs w hA hB h

theorem OwnB.below {W W' : World} {base : Nat} {e : TypeId} {sv : Value} {bs : List Nat} (h : OwnB W base e sv bs) (hb : Below W.heap.size W W') : OwnB W' base e sv bs := by
  have hlt := h.1.lt
  refine ⟨⟨h.1.1, ?_⟩, h.2⟩
  rcases h.1.2 with h0 | ⟨g, cap, cur, rfl, h1, h2, h3⟩
  · exact .inl h0
  · exact .inr ⟨g, cap, cur, rfl, h1, (hb.block g (hlt g rfl).2).trans h2, h3⟩
/-- The front of a row of the call's own, as bytes. -/
theorem OwnB.front {W : World} {base g len cap : Nat} {e : TypeId} {bs : List Nat} (h : OwnB W base e (.slice (some ⟨g, 0, none⟩) len cap) bs) (k : Nat) (hk : k ≤ len) (hl : bs.length = len) : Bytes W.heap.size W (.slice (some ⟨g, 0, none⟩) k cap) (bs.take k) := by
  subst hl
  exact h.bytes.front k hk
theorem OwnB.capOk {W : World} {base g len cap : Nat} {e : TypeId} {bs : List Nat} (h : OwnB W base e (.slice (some ⟨g, 0, none⟩) len cap) bs) (hl : bs.length = len) : len ≤ cap := by
  subst hl
  exact h.bytes.capOk

/-- What Room hands back: a piece of a row of its own that has three marked bytes behind it. -/
def Roomy (W0 : World) (bs : List Nat) (e : Ending) (W : World) : Prop :=
  ∃ g cap, e = .returned (.slice (some ⟨g, 0, none⟩) bs.length cap) ∧ OwnB W W0.heap.size 5 (.slice (some ⟨g, 0, none⟩) (bs.length + 3) cap) (bs ++ [171, 172, 173]) ∧ Below W0.heap.size W0 W

theorem info_u8 : (Tryz.prog.info? 5).map (fun i => (i.zero, i.size, i.bytes)) = some (some (.int .u8 0), 1, 1) := by kernel_rfl

set_option maxRecDepth 100000 in
set_option maxHeartbeats 1000000 in
theorem room_calls (sv : Value) (bs : List Nat) (hreach : bs.length ≤ 140737488351232) (w : World) (hI : Bytes w.heap.size w sv bs) :
    Calls Tryz.prog 18 #[sv] w (Roomy w bs) := by
  obtain ⟨i0, hi, hz0, hz1, hz2⟩ := info_parts info_u8
  obtain ⟨A, cap, rfl⟩ := hI.form
  have HI := Lib.hid hI
  clear hI
  obtain ⟨len, hlen⟩ : ∃ len, bs.length = len := ⟨_, rfl⟩
  have HL := Lib.hid hlen
  rw [hlen] at hreach HI ⊢
  clear hlen
  have h3 : (len : Int) + 3 ≤ 9223372036854775807 := by omega
  go_enter Tryz.func18, Tryz.ntmps18
  go_wp2_with (first
    | (at_make; refine wpList_make_own _ rfl _ _ _ rfl w.heap.size 5 i0 (.int .u8 0) 1 Tryz.underlying29 hi hz0 hz1 _ _ _ (len + 3) rfl rfl (by simp) (by rw [hz2]; omega) (by simp only [maxLen]; omega) (Nat.le_refl _) ?_
       intro w1 hO1 hg1
       have hB1 : Below w.heap.size w w1 := (Below.refl _ _).grown hg1 (Nat.le_refl _) (by simp)
       obtain ⟨v2, w2, R2, O2, G2, _⟩ := run_append_bytes (P := Tryz.prog) w1 29 Tryz.underlying29 hi hz0 hz1 hz2 rfl (base := w.heap.size) (xs := []) ⟨hO1, by simp⟩ (HI.out.on hB1) (by rw [HL.out]; simp; omega) hB1.size
       have hB2 : Below w.heap.size w w2 := below_append hB1 G2 (base := w.heap.size) (xs := []) ⟨hO1, by simp⟩ (Nat.le_refl _) hB1.size
       have hB3 := hB2.alloc hB2.size (.cells #[.int .u8 171, .int .u8 172, .int .u8 173] 5)
       obtain ⟨v4, w4, R4, O4, G4, _⟩ := run_append_bytes (P := Tryz.prog) (w2.alloc (.cells #[.int .u8 171, .int .u8 172, .int .u8 173] 5)) 29 Tryz.underlying29 hi hz0 hz1 hz2 rfl (O2.alloc _)
         (OwnB.bytes (base := w.heap.size) (e := 5) (bs := [171, 172, 173]) ⟨World.ownsRow_lit w2 #[.int .u8 171, .int .u8 172, .int .u8 173] 3 hB2.size (by simp [maxLen]) rfl, by decide⟩) (by rw [List.nil_append, HL.out]; simp; omega) hB3.size
       have hB4 := below_append hB3 G4 (O2.alloc _) (Nat.le_refl _) hB3.size
       rw [List.nil_append] at O4
       obtain ⟨g, c4, rfl, _, _⟩ := O4.form (by simp)
       have hl4 : (bs ++ [171, 172, 173]).length = len + 3 := by rw [List.length_append, HL.out]; rfl
       rw [hl4] at O4 R4
       have hcap : ((len : Nat) : Int) ≤ (c4 : Int) := by have := O4.capOk hl4; omega
       have R2' := Lib.hid R2
       have R4' := Lib.hid R4
       have O4' := Lib.hid O4
       clear R2 R4 O4 G2 G4 O2 hl4 hO1 hg1)
    | (at_builtin; refine wpList_append_ran rfl _ _ _ rfl rfl rfl R2'.out ?_)
    | (at_builtin; refine wpList_append_ran rfl _ _ _ rfl rfl rfl R4'.out ?_))
  go_ret
  exact ⟨g, c4, by rw [HL.out]; rfl, by rw [HL.out]; exact O4'.out, hB4⟩

set_option maxRecDepth 100000 in
set_option maxHeartbeats 1000000 in
/-- Kept, of what Room handed back: true. -/
theorem kept_true (sb : Value) (bs : List Nat) (hreach : bs.length ≤ 140737488351232) (W : World) (base g cap : Nat) (hO : OwnB W base 5 (.slice (some ⟨g, 0, none⟩) (bs.length + 3) cap) (bs ++ [171, 172, 173])) (hI : Bytes W.heap.size W sb bs) :
    Calls Tryz.prog 20 #[.slice (some ⟨g, 0, none⟩) bs.length cap, sb] W fun e W' => e = .returned (.bool true) ∧ W' = W := by
  have hl : (bs ++ [171, 172, 173]).length = bs.length + 3 := by simp
  have hF := hO.front bs.length (by omega) hl
  rw [List.take_left' rfl] at hF
  have hcap := hO.capOk hl
  have c0 := (hO.cell hl bs.length (by omega)).1
  have c1 := (hO.cell hl (bs.length + 1) (by omega)).1
  have c2 := (hO.cell hl (bs.length + 2) (by omega)).1
  have g0 : (bs ++ [171, 172, 173]).getD bs.length 0 = 171 := by simp [List.getD]
  have g1 : (bs ++ [171, 172, 173]).getD (bs.length + 1) 0 = 172 := by simp [List.getD]
  have g2 : (bs ++ [171, 172, 173]).getD (bs.length + 2) 0 = 173 := by simp [List.getD]
  rw [g0] at c0
  rw [g1] at c1
  rw [g2] at c2
  have hS := same_true (.slice (some ⟨g, 0, none⟩) bs.length cap) sb bs W hF hI
  obtain ⟨len, hlen⟩ : ∃ len, bs.length = len := ⟨_, rfl⟩
  rw [hlen] at hcap c0 c1 c2 hS hreach ⊢
  have hcI : (len : Int) + 3 ≤ (cap : Int) := by omega
  have h3 : (len : Int) + 3 ≤ 9223372036854775807 := by omega
  have HS := Lib.hid hS
  clear hl hF g0 g1 g2 hO hI hS hlen hcap
  go_enter Tryz.func20, Tryz.ntmps20
  go_wp2_with fail
  refine HS.out.mono ?_
  rintro e w1 ⟨rfl, rfl⟩
  go_wp2
  go_ret
  exact ⟨rfl, rfl⟩

end Go.Proofs.YtnhkpemajknfnaaGreatDoor.Law
