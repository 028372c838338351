/-
  Put together out of texts of one chain: what they hold stands ahead of each.
-/
import Derived.Test.YtnjjjalenhbicaaGDiskStands02
import Derived.Laws.IdiomStrings
import Derived.OwnWalk
import Derived.Lib.SlicesS
import Derived.Test.YtnjjjalenhbicaaChecked
import Derived.Lib.AppendStr
import Derived.Laws.CopyRow
/-
  What the statements' own helpers do with bytes: Same, Room, Kept.
-/
namespace Go.Proofs.Ytnjjjalenhbicaa.Law
open Go Go.RowKit

/-- The bytes as a string. -/
def str (bs : List Nat) : ByteArray := ⟨(bs.map UInt8.ofNat).toArray⟩

theorem str_inj {a b : List Nat} (ha : ∀ x ∈ a, x < 256) (hb : ∀ x ∈ b, x < 256) (h : str a = str b) : a = b := by
  unfold str at h
  have h1 : (a.map UInt8.ofNat).toArray = (b.map UInt8.ofNat).toArray := by injection h
  have h2 : a.map UInt8.ofNat = b.map UInt8.ofNat := by simpa using h1
  have h3 : ∀ l : List Nat, (∀ x ∈ l, x < 256) → (l.map UInt8.ofNat).map UInt8.toNat = l := by
    intro l hl
    rw [List.map_map]
    conv => rhs; rw [← List.map_id l]
    apply List.map_congr_left
    intro x hx
    have := hl x hx
    simp [Nat.mod_eq_of_lt this]
  rw [← h3 a ha, ← h3 b hb, h2]

theorem run_string_bytes {P : Program} (w : World) {src dst e : TypeId} (hs : P.underlying src = some (.slice e)) (he : P.underlying e = some (.int .u8)) (hd : P.underlying dst = some .string) {n : Nat} {sv : Value} {bs : List Nat} (hI : Bytes n w sv bs) :
    (convert src dst sv).run P w = .ok (.string (str bs)) w := by
  obtain ⟨A, cap, rfl, _, hA, h256, hc⟩ := hI
  cases A with
  | none =>
    have hb0 : bs.length = 0 := by
      rcases Nat.eq_zero_or_pos bs.length with h0 | h0
      · exact h0
      · obtain ⟨b, off, he, _⟩ := hc h0
        cases he
    obtain rfl : bs = [] := List.length_eq_zero_iff.1 hb0
    obtain rfl : cap = 0 := hA rfl
    exact (run_convert_bytes_string w src dst e none 0 0 hs he hd).trans rfl
  | some a =>
    have h := run_convert_bytes_back (P := P) w src dst e a cap (bs.map UInt8.ofNat) hs he hd (fun j hj => by
      rw [List.length_map] at hj
      obtain ⟨b, off, he, _, hcell⟩ := hc (by omega)
      obtain rfl : a = ⟨b, off, none⟩ := by simpa using he
      rw [Addr.add_lit, hcell j hj]
      have e1 : bs.getD j 0 = bs[j] := by simp [List.getD, hj]
      have h1 : bs[j] < 256 := h256 _ (List.getElem_mem _)
      simp only [List.getElem_map, UInt8.toNat_ofNat']
      rw [e1, Nat.mod_eq_of_lt h1])
    rw [List.length_map] at h
    exact h

set_option maxHeartbeats 1000000 in
/-- The same bytes: true. -/
theorem same_true (sa sb : Value) (bs : List Nat) (w : World) {n m : Nat} (hA : Bytes n w sa bs) (hB : Bytes m w sb bs) :
    Calls Try.prog 17 #[sa, sb] w fun e W' => e = .returned (.bool true) ∧ W' = w := by
  have c1 := run_string_bytes (P := Try.prog) w Try.underlying34 Try.underlying5 Try.underlying9 hA
  have c2 := run_string_bytes (P := Try.prog) w Try.underlying34 Try.underlying5 Try.underlying9 hB
  obtain ⟨A, ca, rfl⟩ := hA.form
  obtain ⟨B, cb, rfl⟩ := hB.form
  obtain ⟨l, hl⟩ : ∃ l, bs.length = l := ⟨_, rfl⟩
  rw [hl] at c1 c2 ⊢
  clear hl hA hB
  go_enter Try.func17, Try.ntmps17
  go_wp2
  go_ret
  exact ⟨rfl, rfl⟩

set_option maxHeartbeats 1000000 in
/-- Other bytes: false. -/
theorem same_false (sa sb : Value) (xs bs : List Nat) (w : World) {n m : Nat} (hA : Bytes n w sa xs) (hB : Bytes m w sb bs) (hne : xs ≠ bs) :
    Calls Try.prog 17 #[sa, sb] w fun e W' => e = .returned (.bool false) ∧ W' = w := by
  have c1 := run_string_bytes (P := Try.prog) w Try.underlying34 Try.underlying5 Try.underlying9 hA
  have c2 := run_string_bytes (P := Try.prog) w Try.underlying34 Try.underlying5 Try.underlying9 hB
  have hs : ((str xs).toList == (str bs).toList) = false := (Lib.bytes_beq_false_iff _ _).2 fun h => hne (str_inj hA.lt hB.lt h)
  obtain ⟨A, ca, rfl⟩ := hA.form
  obtain ⟨B, cb, rfl⟩ := hB.form
  obtain ⟨l, hl⟩ : ∃ l, xs.length = l := ⟨_, rfl⟩
  obtain ⟨l2, hl2⟩ : ∃ l, bs.length = l := ⟨_, rfl⟩
  rw [hl] at c1 ⊢
  rw [hl2] at c2 ⊢
  obtain ⟨S1, e1⟩ : ∃ s, str xs = s := ⟨_, rfl⟩
  obtain ⟨S2, e2⟩ : ∃ s, str bs = s := ⟨_, rfl⟩
  rw [e1] at c1 hs
  rw [e2] at c2 hs
  clear hl hl2 hA hB hne e1 e2
  go_enter Try.func17, Try.ntmps17
  go_wp2
  go_ret
  exact ⟨rfl, rfl⟩

theorem same_calls (sa sb : Value) (xs bs : List Nat) (w : World) {n m : Nat} (hA : Bytes n w sa xs) (hB : Bytes m w sb bs) :
    Calls Try.prog 17 #[sa, sb] w fun e W' => e = .returned (.bool (decide (xs = bs))) ∧ W' = w := by
  by_cases h : xs = bs
  · subst h
    rw [decide_eq_true rfl]
    exact same_true sa sb xs w hA hB
  · rw [decide_eq_false h]
    exact same_false sa sb xs bs w hA hB h

theorem OwnB.below {W W' : World} {base : Nat} {e : TypeId} {sv : Value} {bs : List Nat} (h : OwnB W base e sv bs) (hb : Below W.heap.size W W') : OwnB W' base e sv bs := by
  have hlt := h.1.lt
  refine ⟨⟨h.1.1, ?_⟩, h.2⟩
  rcases h.1.2 with h0 | ⟨g, cap, cur, rfl, h1, h2, h3⟩
  · exact .inl h0
  · exact .inr ⟨g, cap, cur, rfl, h1, (hb.block g (hlt g rfl).2).trans h2, h3⟩
/-- The front of a row of the call's own, as bytes. -/
theorem OwnB.front {W : World} {base g len cap : Nat} {e : TypeId} {bs : List Nat} (h : OwnB W base e (.slice (some ⟨g, 0, none⟩) len cap) bs) (k : Nat) (hk : k ≤ len) (hl : bs.length = len) : Bytes W.heap.size W (.slice (some ⟨g, 0, none⟩) k cap) (bs.take k) := by
  subst hl
  exact h.bytes.front k hk
theorem OwnB.capOk {W : World} {base g len cap : Nat} {e : TypeId} {bs : List Nat} (h : OwnB W base e (.slice (some ⟨g, 0, none⟩) len cap) bs) (hl : bs.length = len) : len ≤ cap := by
  subst hl
  exact h.bytes.capOk

/-- What Room hands back: a piece of a row of its own that has three marked bytes behind it. -/
def Roomy (W0 : World) (bs : List Nat) (e : Ending) (W : World) : Prop :=
  ∃ g cap, e = .returned (.slice (some ⟨g, 0, none⟩) bs.length cap) ∧ OwnB W W0.heap.size 5 (.slice (some ⟨g, 0, none⟩) (bs.length + 3) cap) (bs ++ [171, 172, 173]) ∧ Below W0.heap.size W0 W

theorem info_u8 : (Try.prog.info? 5).map (fun i => (i.zero, i.size, i.bytes)) = some (some (.int .u8 0), 1, 1) := by kernel_rfl

set_option maxRecDepth 100000 in
set_option maxHeartbeats 1000000 in
theorem room_calls (sv : Value) (bs : List Nat) (hreach : bs.length ≤ 140737488351232) (w : World) (hI : Bytes w.heap.size w sv bs) :
    Calls Try.prog 20 #[sv] w (Roomy w bs) := by
  obtain ⟨i0, hi, hz0, hz1, hz2⟩ := info_parts info_u8
  obtain ⟨A, cap, rfl⟩ := hI.form
  have HI := Lib.hid hI
  clear hI
  obtain ⟨len, hlen⟩ : ∃ len, bs.length = len := ⟨_, rfl⟩
  have HL := Lib.hid hlen
  rw [hlen] at hreach HI ⊢
  clear hlen
  have h3 : (len : Int) + 3 ≤ 9223372036854775807 := by omega
  go_enter Try.func20, Try.ntmps20
  go_wp2_with (first
    | (at_make; refine wpList_make_own _ rfl _ _ _ rfl w.heap.size 5 i0 (.int .u8 0) 1 Try.underlying34 hi hz0 hz1 _ _ _ (len + 3) rfl rfl (by simp) (by rw [hz2]; omega) (by simp only [maxLen]; omega) (Nat.le_refl _) ?_
       intro w1 hO1 hg1
       have hB1 : Below w.heap.size w w1 := (Below.refl _ _).grown hg1 (Nat.le_refl _) (by simp)
       obtain ⟨v2, w2, R2, O2, G2, _⟩ := run_append_bytes (P := Try.prog) w1 34 Try.underlying34 hi hz0 hz1 hz2 rfl (base := w.heap.size) (xs := []) ⟨hO1, by simp⟩ (HI.out.on hB1) (by rw [HL.out]; simp; omega) hB1.size
       have hB2 : Below w.heap.size w w2 := below_append hB1 G2 (base := w.heap.size) (xs := []) ⟨hO1, by simp⟩ (Nat.le_refl _) hB1.size
       have hB3 := hB2.alloc hB2.size (.cells #[.int .u8 171, .int .u8 172, .int .u8 173] 5)
       obtain ⟨v4, w4, R4, O4, G4, _⟩ := run_append_bytes (P := Try.prog) (w2.alloc (.cells #[.int .u8 171, .int .u8 172, .int .u8 173] 5)) 34 Try.underlying34 hi hz0 hz1 hz2 rfl (O2.alloc _)
         (OwnB.bytes (base := w.heap.size) (e := 5) (bs := [171, 172, 173]) ⟨World.ownsRow_lit w2 #[.int .u8 171, .int .u8 172, .int .u8 173] 3 hB2.size (by simp [maxLen]) rfl, by decide⟩) (by rw [List.nil_append, HL.out]; simp; omega) hB3.size
       have hB4 := below_append hB3 G4 (O2.alloc _) (Nat.le_refl _) hB3.size
       rw [List.nil_append] at O4
       obtain ⟨g, c4, rfl, _, _⟩ := O4.form (by simp)
       have hl4 : (bs ++ [171, 172, 173]).length = len + 3 := by rw [List.length_append, HL.out]; rfl
       rw [hl4] at O4 R4
       have hcap : ((len : Nat) : Int) ≤ (c4 : Int) := by have := O4.capOk hl4; omega
       have R2' := Lib.hid R2
       have R4' := Lib.hid R4
       have O4' := Lib.hid O4
       clear R2 R4 O4 G2 G4 O2 hl4 hO1 hg1)
    | (at_builtin; refine wpList_append_ran rfl _ _ _ rfl rfl rfl R2'.out ?_)
    | (at_builtin; refine wpList_append_ran rfl _ _ _ rfl rfl rfl R4'.out ?_))
  go_ret
  exact ⟨g, c4, by rw [HL.out]; rfl, by rw [HL.out]; exact O4'.out, hB4⟩

set_option maxRecDepth 100000 in
set_option maxHeartbeats 1000000 in
/-- Kept, of what Room handed back: true. -/
theorem kept_true (sb : Value) (bs : List Nat) (hreach : bs.length ≤ 140737488351232) (W : World) (base g cap : Nat) (hO : OwnB W base 5 (.slice (some ⟨g, 0, none⟩) (bs.length + 3) cap) (bs ++ [171, 172, 173])) (hI : Bytes W.heap.size W sb bs) :
    Calls Try.prog 22 #[.slice (some ⟨g, 0, none⟩) bs.length cap, sb] W fun e W' => e = .returned (.bool true) ∧ W' = W := by
  have hl : (bs ++ [171, 172, 173]).length = bs.length + 3 := by simp
  have hF := hO.front bs.length (by omega) hl
  rw [List.take_left' rfl] at hF
  have hcap := hO.capOk hl
  have c0 := (hO.cell hl bs.length (by omega)).1
  have c1 := (hO.cell hl (bs.length + 1) (by omega)).1
  have c2 := (hO.cell hl (bs.length + 2) (by omega)).1
  have g0 : (bs ++ [171, 172, 173]).getD bs.length 0 = 171 := by simp [List.getD]
  have g1 : (bs ++ [171, 172, 173]).getD (bs.length + 1) 0 = 172 := by simp [List.getD]
  have g2 : (bs ++ [171, 172, 173]).getD (bs.length + 2) 0 = 173 := by simp [List.getD]
  rw [g0] at c0
  rw [g1] at c1
  rw [g2] at c2
  have hS := same_true (.slice (some ⟨g, 0, none⟩) bs.length cap) sb bs W hF hI
  obtain ⟨len, hlen⟩ : ∃ len, bs.length = len := ⟨_, rfl⟩
  rw [hlen] at hcap c0 c1 c2 hS hreach ⊢
  have hcI : (len : Int) + 3 ≤ (cap : Int) := by omega
  have h3 : (len : Int) + 3 ≤ 9223372036854775807 := by omega
  have HS := Lib.hid hS
  clear hl hF g0 g1 g2 hO hI hS hlen hcap
  go_enter Try.func22, Try.ntmps22
  go_wp2_with fail
  refine HS.out.mono ?_
  rintro e w1 ⟨rfl, rfl⟩
  go_wp2
  go_ret
  exact ⟨rfl, rfl⟩

end Go.Proofs.Ytnjjjalenhbicaa.Law

/-
  A slice of bytes in a block of the call's own, whose capacity may be less than the block's cells: copied into from a string, appended to from a string, cut. Of whatever program.
-/
namespace Go.Proofs.Ytnjjjalenhbicaa.Law
open Go Go.RowKit Go.Lib

def bytesS (s : ByteArray) : List Nat := s.data.toList.map UInt8.toNat
theorem bytesS_length (s : ByteArray) : (bytesS s).length = s.size := by unfold bytesS; rw [List.length_map, Array.length_toList]; rfl
theorem bytesS_lt (s : ByteArray) : ∀ x ∈ bytesS s, x < 256 := by
  intro x hx
  simp only [bytesS, List.mem_map] at hx
  obtain ⟨y, _, rfl⟩ := hx
  exact y.toNat_lt
theorem strCells_vals (s : ByteArray) : strCells s = vals (bytesS s) := by
  unfold strCells vals bytesS
  rw [List.map_map]; rfl

/-- The slice value reads as the bytes, from the front of a block of its own. -/
def Buf (W : World) (base : Nat) (e : TypeId) (v : Value) (bs : List Nat) : Prop :=
  (∀ x ∈ bs, x < 256) ∧ ((v = .slice none 0 0 ∧ bs = []) ∨
    ∃ g cap cur, v = .slice (some ⟨g, 0, none⟩) bs.length cap ∧ base ≤ g ∧ W.heap[g]? = some (.cells cur e (0, 0)) ∧ bs.length ≤ cap ∧ cap ≤ cur.size ∧ cap ≤ maxLen ∧ cur.toList.take bs.length = vals bs)

theorem Buf.of_own {W : World} {base : Nat} {e : TypeId} {v : Value} {bs : List Nat} (h : OwnB W base e v bs) : Buf W base e v bs := by
  refine ⟨h.2, ?_⟩
  rcases h.1.2 with ⟨hv, hz⟩ | ⟨g, cap, cur, rfl, hb, hg, hn, hc, hs, ht⟩
  · exact .inl ⟨hv, List.eq_nil_of_length_eq_zero hz⟩
  · exact .inr ⟨g, cap, cur, rfl, hb, hg, hn, by omega, hc, by simpa using ht⟩
theorem Buf.nil (W : World) (base : Nat) (e : TypeId) : Buf W base e (.slice none 0 0) [] := ⟨by simp, .inl ⟨rfl, rfl⟩⟩
theorem Buf.form {W : World} {base : Nat} {e : TypeId} {v : Value} {bs : List Nat} (h : Buf W base e v bs) : ∃ A cap, v = .slice A bs.length cap ∧ bs.length ≤ cap := by
  rcases h.2 with ⟨rfl, rfl⟩ | ⟨g, cap, cur, rfl, _, _, hn, _⟩
  · exact ⟨none, 0, rfl, Nat.le_refl _⟩
  · exact ⟨_, cap, rfl, hn⟩
theorem Buf.own {W : World} {base : Nat} {e : TypeId} {v : Value} {bs : List Nat} (h : Buf W base e v bs) : ∀ g, v.ownBlock = some g → base ≤ g ∧ g < W.heap.size := fun g hg => by
  rcases h.2 with ⟨rfl, _⟩ | ⟨g', cap, cur, rfl, hb, hh, _⟩
  · cases hg
  · simp only [Value.ownBlock, Option.some.injEq] at hg
    subst hg
    exact ⟨hb, (Array.getElem?_eq_some_iff.1 hh).1⟩
theorem Buf.keep {W W' : World} {base : Nat} {e : TypeId} {v : Value} {bs : List Nat} (h : Buf W base e v bs) (hb : ∀ g, v.ownBlock = some g → W'.heap[g]? = W.heap[g]?) : Buf W' base e v bs := by
  refine ⟨h.1, ?_⟩
  rcases h.2 with h0 | ⟨g, cap, cur, rfl, h1, h2, h3⟩
  · exact .inl h0
  · exact .inr ⟨g, cap, cur, rfl, h1, (hb g rfl).trans h2, h3⟩
theorem Buf.below {W W' : World} {base : Nat} {e : TypeId} {v : Value} {bs : List Nat} (h : Buf W base e v bs) (hB : Below W.heap.size W W') : Buf W' base e v bs := h.keep fun g hg => hB.block g (h.own g hg).2
theorem Buf.lower {W : World} {base b' : Nat} {e : TypeId} {v : Value} {bs : List Nat} (h : Buf W base e v bs) (hb : b' ≤ base) : Buf W b' e v bs := by
  refine ⟨h.1, ?_⟩
  rcases h.2 with h0 | ⟨g, cap, cur, rfl, h1, h2⟩
  · exact .inl h0
  · exact .inr ⟨g, cap, cur, rfl, by omega, h2⟩
theorem take_vals_get {cur : List Value} {bs : List Nat} (h : cur.take bs.length = vals bs) {j : Nat} (hj : j < bs.length) : cur[j]? = some (.int .u8 (bs.getD j 0 : Nat)) := by
  have : (cur.take bs.length)[j]? = cur[j]? := by rw [List.getElem?_take, if_pos hj]
  rw [← this, h]; exact vals_get bs j hj
theorem Buf.bytes {W : World} {base : Nat} {e : TypeId} {v : Value} {bs : List Nat} (h : Buf W base e v bs) : Bytes W.heap.size W v bs := by
  have hlt := h.own
  obtain ⟨h256, h⟩ := h
  rcases h with ⟨rfl, rfl⟩ | ⟨g, cap, cur, rfl, hb, hg, hn, hc, hm, ht⟩
  · exact ⟨none, 0, rfl, Nat.le_refl _, fun _ => rfl, by simp, fun h => by simp at h⟩
  · refine ⟨_, cap, rfl, hn, (fun h => by cases h), h256, fun _ => ⟨g, 0, rfl, (hlt g rfl).2, fun j hj => ?_⟩⟩
    have := take_vals_get ht hj
    simp only [World.cell?, hg, Nat.zero_add]
    rw [← this]
    simp

/-- The front of a buffer, with no room behind it. -/
theorem Buf.cut {W : World} {base : Nat} {e : TypeId} {A : Option Addr} {len cap : Nat} {bs : List Nat} (h : Buf W base e (.slice A len cap) bs) (k : Nat) (hk : k ≤ bs.length) (hA : A = none → k = 0) : Buf W base e (.slice A k k) (bs.take k) := by
  have hl : (bs.take k).length = k := by rw [List.length_take]; omega
  refine ⟨fun x hx => h.1 x (List.mem_of_mem_take hx), ?_⟩
  rcases h.2 with ⟨hv, rfl⟩ | ⟨g, cap', cur, hv, hb, hg, hn, hc, hm, ht⟩
  · simp only [Value.slice.injEq] at hv
    obtain ⟨rfl, _, _⟩ := hv
    obtain rfl := hA rfl
    exact .inl ⟨rfl, rfl⟩
  · simp only [Value.slice.injEq] at hv
    obtain ⟨rfl, rfl, rfl⟩ := hv
    refine .inr ⟨g, k, cur, by rw [hl], hb, hg, by omega, by omega, by omega, ?_⟩
    rw [hl]
    have : (cur.toList.take bs.length).take k = cur.toList.take k := by rw [List.take_take]; congr 1; omega
    rw [← this, ht]
    simp [vals, List.map_take]

/-- A slice of the same block that is no longer than what stays. -/
theorem Buf.front_kept {W W' : World} {base base' : Nat} {e : TypeId} {v : Value} {bs : List Nat} {g : Nat} {cur cur' : Array Value} (h : Buf W base e v bs) (hg : W.heap[g]? = some (.cells cur e (0, 0))) (hg' : W'.heap[g]? = some (.cells cur' e (0, 0))) (hs : cur'.size = cur.size)
    (hv : v.ownBlock = some g) (hf : cur'.toList.take bs.length = cur.toList.take bs.length) (hb : base' ≤ g) : Buf W' base' e v bs := by
  refine ⟨h.1, ?_⟩
  rcases h.2 with ⟨rfl, _⟩ | ⟨g', cap, c0, rfl, h1, h2, h3, h4, h5, h6⟩
  · cases hv
  · simp only [Value.ownBlock, Option.some.injEq] at hv
    subst hv
    rw [hg] at h2
    simp only [Option.some.injEq, Obj.cells.injEq, and_true] at h2
    obtain rfl := h2
    exact .inr ⟨g', cap, cur', rfl, hb, hg', h3, by omega, h5, by rw [hf]; exact h6⟩

theorem setRow_grown (W : World) (g : Nat) (cs : Array Value) : W.grownBy (W.setRow g cs) (some g) := by
  refine ⟨rfl, rfl, rfl, by simp, fun k _ hk => ?_⟩
  have hne : g ≠ k := fun e => hk (by rw [e])
  unfold World.setRow
  simp [Array.getElem?_modify, hne]

/-- A string is copied into a part of a row. -/
theorem run_copy_string {P : Program} (w : World) (dT sT ty elem : TypeId) (g o dLen dCap : Nat) (s : ByteArray) (cur : Array Value) (t : TypeId) (hu : P.underlying dT = some (.slice elem)) (hs : (P.info? elem).map (·.size) = some 1)
    (hg : w.heap[g]? = some (.cells cur t (0, 0))) (hfit : o + Nat.min s.size dLen ≤ cur.size) :
    (Builtin.copy_ #[dT, sT] ty #[.slice (some ⟨g, o, none⟩) dLen dCap, .string s]).run P w =
      .ok (goInt (Nat.min s.size dLen)) (w.setRow g (cur.toList.take o ++ (strCells s).take (Nat.min s.size dLen) ++ cur.toList.drop (o + Nat.min s.size dLen)).toArray) := by
  obtain ⟨n, hn⟩ : ∃ n, Nat.min s.size dLen = n := ⟨_, rfl⟩
  have hns : n ≤ s.size := by rw [← hn]; exact Nat.min_le_left _ _
  have hl : ((strCells s).take n).length = n := by rw [List.length_take, strCells_length]; omega
  have hst2 := run_storeCells_at P g o t ((strCells s).take n) 0 cur w hg (by rw [hl]; rw [hn] at hfit; simpa using hfit) (fun u hu => strCells_oneCell s u (List.mem_of_mem_take hu))
  rw [hl] at hst2
  rw [hn]
  cases hq : P.info? elem with
  | none => simp [hq] at hs
  | some i =>
    simp only [Nat.add_zero] at hst2
    have hst3 : (storeCells ⟨g, o, none⟩ (List.take n (List.map (fun b => Value.int IntKind.u8 ↑b.toNat) s.data.toList))).run P w = _ := hst2
    simp [Builtin.copy_, run_underlying hu, Builtin.lenOf, Builtin.firstCells, sizeOf, typeInfo, hq, hn, hst3]

/-- A string is copied nowhere. -/
theorem run_copy_nowhere {P : Program} (w : World) (dT sT ty elem : TypeId) (dp : Option Addr) (dCap : Nat) (s : ByteArray) (hu : P.underlying dT = some (.slice elem)) (hs : ((P.info? elem).map (·.size)) = some 1) :
    (Builtin.copy_ #[dT, sT] ty #[.slice dp 0 dCap, .string s]).run P w = .ok (goInt 0) w := by
  cases hq : P.info? elem with
  | none => simp [hq] at hs
  | some i =>
    cases dp with
    | none => simp [Builtin.copy_, run_underlying hu, Builtin.lenOf, Builtin.firstCells, sizeOf, typeInfo, hq]
    | some a => simp [Builtin.copy_, run_underlying hu, Builtin.lenOf, Builtin.firstCells, sizeOf, typeInfo, hq, storeCells]

/-- A string is put behind a buffer: in its own block, if there is room, else in a new one. -/
theorem Buf.append_string {P : Program} {W : World} {base : Nat} {t u e : TypeId} (ty : TypeId) {i : TypeInfo} (ht : P.underlying t = some (.slice e)) (hu : P.underlying u = some .string) (hi : P.info? e = some i) (hz : i.zero = some (.int .u8 0)) (hsize : i.size = 1) (hby : i.bytes = 1)
    {v : Value} {bs : List Nat} (h : Buf W base e v bs) (s : ByteArray) (hroom : bs.length + s.size ≤ 140737488355328) (hbase : base ≤ W.heap.size) :
    ∃ v' W', (Builtin.append_ #[t, u] ty #[v, .string s]).run P W = .ok v' W' ∧ Buf W' base e v' (bs ++ bytesS s) ∧ W.grownBy W' v.ownBlock ∧ (v'.ownBlock = v.ownBlock ∨ v'.ownBlock = some W.heap.size) ∧
      (∀ b2 v2 xs, Buf W b2 e v2 xs → v2.ownBlock = v.ownBlock → xs.length ≤ bs.length → Buf W' b2 e v2 xs) ∧
      ((∃ A, v = .slice A bs.length bs.length) → (∀ k, k < W.heap.size → W'.heap[k]? = W.heap[k]?) ∧ (v'.ownBlock = some W.heap.size ∨ ∃ A n, v' = .slice A n n)) := by
  rcases h.2 with ⟨rfl, rfl⟩ | ⟨g, cap, cur, rfl, hbg, hg, hnc, hcs, hcm, htake⟩
  · have hO : W.ownsRow base e 1 (.slice none 0 0) 0 [] := World.ownsRow_nil W base e 1
    obtain ⟨v', w', hrun, h1, h2, h3⟩ := run_append_own_string (P := P) W base t u ty e i ht hu hi hz hsize hby (.slice none 0 0) 0 [] hO s (by simp only [maxLen]; simp only [List.length_nil] at hroom; omega) (by simpa using hroom) hbase
    have hO' : OwnB w' base e v' (bytesS s) := ⟨by rw [bytesS_length]; rw [strCells_vals] at h1; simpa using h1, bytesS_lt s⟩
    have hblk : ∀ k, k < W.heap.size → w'.heap[k]? = W.heap[k]? := fun k hk => h2.block k hk (by simp [Value.ownBlock])
    suffices hx : v' = .slice none 0 0 ∨ v'.ownBlock = some W.heap.size by
      refine ⟨v', w', hrun, Buf.of_own hO', h2, ?_, fun b2 v2 xs hb he _ => hb.keep (fun k hk => by rw [hk] at he; cases he), fun _ => ⟨hblk, ?_⟩⟩
      · rcases hx with rfl | hx
        · exact .inl rfl
        · exact .inr hx
      · rcases hx with rfl | hx
        · exact .inr ⟨none, 0, rfl⟩
        · exact .inl hx
    by_cases hs0 : s.size = 0
    · rw [h3.2 ⟨rfl, hs0⟩]; exact .inl rfl
    · have hr := run_append_nil_string (P := P) W t u ty e i (.int .u8 0) ht hu hi hz s (by omega) (by simp only [List.length_nil] at hroom; omega) (by rw [hby]; simp only [List.length_nil] at hroom; omega)
      rw [hr] at hrun
      simp only [Result.ok.injEq] at hrun
      rw [← hrun.1]; exact .inr rfl
  · have hlt := (Array.getElem?_eq_some_iff.1 hg).1
    have hall : ∀ x ∈ bs ++ bytesS s, x < 256 := fun x hx => (List.mem_append.1 hx).elim (h.1 x) (bytesS_lt s x)
    have hl2 : (bs ++ bytesS s).length = bs.length + s.size := by rw [List.length_append, bytesS_length]
    by_cases hfit : bs.length + s.size ≤ cap
    · have hr := run_append_room_string (P := P) W t u ty e i ht hu hi hsize g bs.length cap cur hg s hfit (by omega)
      have hg' := setRow_heap W g cur (cur.toList.take bs.length ++ strCells s ++ cur.toList.drop (bs.length + s.size)).toArray e (0, 0) hg
      have hsz : (cur.toList.take bs.length ++ strCells s ++ cur.toList.drop (bs.length + s.size)).toArray.size = cur.size := by
        simp only [List.size_toArray, List.length_append, List.length_take, List.length_drop, Array.length_toList, strCells_length]
        omega
      refine ⟨_, _, hr, ⟨hall, .inr ⟨g, cap, _, by rw [hl2], hbg, hg', by omega, by rw [hsz]; exact hcs, hcm, ?_⟩⟩, setRow_grown W g _, .inl rfl, fun b2 v2 xs hb he hle => ?_, fun hA => ⟨fun k hk => ?_, ?_⟩⟩
      · rw [hl2, vals_append, ← strCells_vals, htake]
        have : bs.length + s.size = (vals bs ++ strCells s).length := by rw [List.length_append, vals_length, strCells_length]
        rw [this]
        exact List.take_left
      · refine hb.front_kept hg hg' hsz he ?_ ?_
        · have h1 : (cur.toList.take bs.length).length = bs.length := by rw [htake, vals_length]
          rw [List.append_assoc]
          show List.take xs.length (List.take bs.length cur.toList ++ _) = _
          rw [List.take_append_of_le_length (by rw [h1]; exact hle), List.take_take]
          congr 1; omega
        · exact (hb.own g he).1
      · obtain ⟨A, hA⟩ := hA
        simp only [Value.slice.injEq] at hA
        obtain ⟨_, _, hA⟩ := hA
        have hs0 : s.size = 0 := by omega
        have hnil : strCells s = [] := List.eq_nil_of_length_eq_zero (by rw [strCells_length]; exact hs0)
        by_cases hkg : k = g
        · subst hkg
          rw [hg', hg, hnil, hs0]
          simp
        · exact (setRow_grown W g _).block k hk (fun e => hkg (by simpa using e))
      · obtain ⟨A, hA⟩ := hA
        simp only [Value.slice.injEq] at hA
        obtain ⟨_, _, hA⟩ := hA
        exact .inr ⟨some ⟨g, 0, none⟩, cap, by rw [show bs.length + s.size = cap by omega]⟩
    · have holds : ∀ j x, (vals bs)[j]? = some x → W.cell? ((⟨g, 0, none⟩ : Addr).add j) = some x := fun j x hx => by
        have hj : j < bs.length := by have := (List.getElem?_eq_some_iff.1 hx).1; rwa [vals_length] at this
        rw [Addr.add_lit]
        have := take_vals_get htake hj
        rw [vals_get bs j hj] at hx
        simp only [World.cell?, hg, Nat.zero_add]
        rw [← hx, ← this]
        simp
      have hr := run_append_grow_string (P := P) W t u ty e i (.int .u8 0) ht hu hi hz ⟨g, 0, none⟩ bs.length cap (vals bs) (by rw [hsize, vals_length, Nat.mul_one]) holds s (by omega) (by omega) (by rw [hby]; exact growslice_fits (by omega) (by omega))
      have hge := grownCap_ge W (bs.length + s.size) cap e
      have hcm2 : grownCap W (bs.length + s.size) cap e ≤ maxLen := grownCap_le_maxLen W (bs.length + s.size) cap e (by simp only [maxLen]; omega)
      have hblk : ∀ k, k < W.heap.size → (W.drew.alloc (.cells ((vals bs).toArray ++ (strCells s).toArray ++ Builtin.zeroCells (Value.int .u8 0).cells (grownCap W (bs.length + s.size) cap e - (bs.length + s.size))) e)).heap[k]? = W.heap[k]? := fun k hk => Below.heap_alloc W.drew _ k hk
      refine ⟨_, _, hr, ⟨hall, .inr ⟨W.heap.size, _, _, by rw [hl2], hbase, heap_alloc_new W.drew _, by omega, ?_, hcm2, ?_⟩⟩, ⟨rfl, rfl, rfl, by simp, fun k hk _ => hblk k hk⟩, .inr rfl, fun b2 v2 xs hb he _ => hb.keep (fun k hk => hblk k (hb.own k hk).2), fun _ => ⟨hblk, .inl rfl⟩⟩
      · have hz1 : (Value.int IntKind.u8 0).cells.size = 1 := rfl
        simp only [Array.size_append, List.size_toArray, size_zeroCells, hz1, vals_length, strCells_length]
        omega
      · simp only [Array.toList_append, List.append_assoc]
        rw [← List.append_assoc, hl2, vals_append, ← strCells_vals]
        have : bs.length + s.size = (vals bs ++ strCells s).length := by rw [List.length_append, vals_length, strCells_length]
        rw [this]
        exact List.take_left

end Go.Proofs.Ytnjjjalenhbicaa.Law
