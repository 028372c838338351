/-
  The walk of the law WireParts.
-/
import Derived.Test.YtjeklbgonnbocaaWireEncode
import Derived.Test.YtjeklbgonnbocaaWireKnown
import Derived.Test.YtjeklbgonnbocaaWireOpen
import Derived.Test.YtjeklbgonnbocaaWireSame
import Derived.Test.YtjeklbgonnbocaaWireLit
import Derived.Test.YtjeklbgonnbocaaWirePartsMath
namespace Go.Proofs.Ytjeklbgonnbocaa.Wire
open Go Go.RowKit Go.Proofs.Ytjeklbgonnbocaa.Law

def two (n : Int) (s : ByteArray) : List Item := [intItem n, textItem s]
def three (n : Int) (s : ByteArray) (l : List Item) : List Item := [intItem n, textItem s, .mk 2 0 noText l]
theorem two_kids {S : Nat → Prop} {W : World} (n : Int) (s : ByteArray) : ∀ (j : Nat) (x : Item), (two n s)[j]? = some x → Items S W (.slice none 0 0) x.kids := by
  intro j x hx
  match j, hx with
  | 0, hx => simp [two] at hx; subst hx; exact .nil none 0 _ (fun _ => rfl) rfl
  | 1, hx => simp [two] at hx; subst hx; exact .nil none 0 _ (fun _ => rfl) rfl
  | j + 2, hx => simp [two] at hx
theorem three_kids {S : Nat → Prop} {W : World} {v : Value} {l : List Item} (n : Int) (s : ByteArray) (h : Items S W v l) : ∀ (j : Nat) (x : Item), (three n s l)[j]? = some x → Items S W (if j = 2 then v else .slice none 0 0) x.kids := by
  intro j x hx
  match j, hx with
  | 0, hx => simp [three] at hx; subst hx; exact .nil none 0 _ (fun _ => rfl) rfl
  | 1, hx => simp [three] at hx; subst hx; exact .nil none 0 _ (fun _ => rfl) rfl
  | 2, hx => simp [three] at hx; subst hx; exact h
  | j + 3, hx => simp [three] at hx
theorem int_sized {n : Int} (h1 : -9223372036854775808 ≤ n) (h2 : n ≤ 9223372036854775807) : (intItem n).sized := by
  rw [intItem, Item.sized]
  exact ⟨by decide, by decide, h1, h2, by decide, by decide, by rw [sizedL]; trivial⟩
theorem text_sized {s : ByteArray} (h : s.size ≤ 140737488351232) : (textItem s).sized := by
  rw [textItem, Item.sized]
  exact ⟨by decide, by decide, by decide, by decide, by omega, by decide, by rw [sizedL]; trivial⟩
theorem three_sized {n : Int} {s : ByteArray} {l : List Item} (h1 : -9223372036854775808 ≤ n) (h2 : n ≤ 9223372036854775807) (h : s.size ≤ 140737488351232) (hl : l.length ≤ 9223372036854775807) (hz : sizedL l) : sizedL (three n s l) := by
  rw [three, sizedL, sizedL, sizedL, sizedL, Item.sized]
  exact ⟨int_sized h1 h2, text_sized h, ⟨by decide, by decide, by decide, by decide, by decide, hl, hz⟩, trivial⟩
theorem more_sized {n : Int} {s : ByteArray} {l : List Item} (h1 : -9223372036854775808 ≤ n) (h2 : n ≤ 9223372036854775807) (h : s.size ≤ 140737488351232) (hz : sizedL l) : sizedL (two n s ++ l) := by
  show sizedL (intItem n :: textItem s :: l)
  rw [sizedL, sizedL]
  exact ⟨int_sized h1 h2, text_sized h, hz⟩

theorem below_drewN' {B : Nat} {a w : World} (h : Below B a w) (n : Nat) : Below B a (w.drewN n) := ⟨h.os, h.tape, h.output, h.size, h.block⟩

set_option maxRecDepth 100000 in
set_option maxHeartbeats 8000000 in
theorem wireParts_law (n : Int) (hn1 : -9223372036854775808 ≤ n) (hn2 : n ≤ 9223372036854775807) (s : ByteArray) (hs : s.size ≤ 140737488351232) (l : List Item) (hF : Fits l) (sv : Value) (w : World) (hI : Old w.heap.size w sv l) :
    Calls Try.prog 6 #[.int .i64 n, .string s, sv] w fun e W => e = .returned (.bool true) ∧ Below w.heap.size w W := by
  have hlong : l.length ≤ 9223372036854775807 := by have := hF.2.2; omega
  have hroom : l.length * 56 ≤ 140737488355328 := by have := hF.2.2; omega
  obtain ⟨A, cap, rfl, hcap⟩ := hI.form
  obtain ⟨len, hlen⟩ : ∃ len, l.length = len := ⟨_, rfl⟩
  have HL := Lib.hid hlen
  rw [hlen] at hI hcap ⊢
  clear hlen
  have HI := Lib.hid hI
  have HF := Lib.hid hF
  clear hI hF
  go_enter Try.func6, Try.ntmps6
  go_wp2_with fail
  refine (int_calls n w).mono ?_
  rintro e w1 ⟨rfl, B1⟩
  have HB1 := Lib.hid B1
  have hs1 := B1.size
  clear B1
  go_wp2_with fail
  refine (text_calls s w1).mono ?_
  rintro e w2 ⟨rfl, B2⟩
  have HB2 := Lib.hid (HB1.out.trans (B2.mono hs1))
  have hs2 := HB2.out.size
  clear B2 HB1 hs1
  go_wp2_with fail
  refine (list_calls l hroom HF.out.2.1 _ w2 (HI.out.on HB2.out)).mono ?_
  rintro e w3 ⟨v, rfl, h3, B3⟩
  obtain ⟨Av, capv, rfl, _⟩ := h3.form
  have HB3 := Lib.hid (HB2.out.trans (B3.mono hs2))
  have hs3 := HB3.out.size
  have HV3 : Hid (Old w3.heap.size w3 (.slice Av l.length capv) l) := Lib.hid (h3.mono (fun b hb => hb.2))
  clear B3 HB2 hs2 h3
  go_wp2_with fail
  have X7 : Boxed4 (((w3.alloc (.cells #[.int .i64 0, .int .i64 n, .string noText, .slice none 0 0] 40)).alloc (.cells #[.int .i64 1, .int .i64 0, .string s, .slice none 0 0] 40)).alloc (.cells #[.int .i64 2, .int .i64 0, .string noText, .slice Av l.length capv] 40)) w3.heap.size (intItem n) (.slice none 0 0) := ((Boxed4.new w3 (intItem n) (.slice none 0 0)).alloc _).alloc _
  have X8 : Boxed4 (((w3.alloc (.cells #[.int .i64 0, .int .i64 n, .string noText, .slice none 0 0] 40)).alloc (.cells #[.int .i64 1, .int .i64 0, .string s, .slice none 0 0] 40)).alloc (.cells #[.int .i64 2, .int .i64 0, .string noText, .slice Av l.length capv] 40)) (w3.heap.size + 1) (textItem s) (.slice none 0 0) := by
    have h := (Boxed4.new (w3.alloc (.cells #[.int .i64 0, .int .i64 n, .string noText, .slice none 0 0] 40)) (textItem s) (.slice none 0 0)).alloc (.cells #[.int .i64 2, .int .i64 0, .string noText, .slice Av l.length capv] 40)
    rw [World.size_alloc] at h
    exact h
  have X9 : Boxed4 (((w3.alloc (.cells #[.int .i64 0, .int .i64 n, .string noText, .slice none 0 0] 40)).alloc (.cells #[.int .i64 1, .int .i64 0, .string s, .slice none 0 0] 40)).alloc (.cells #[.int .i64 2, .int .i64 0, .string noText, .slice Av l.length capv] 40)) (w3.heap.size + 2) (.mk 2 0 noText l) (.slice Av l.length capv) := by
    have h := Boxed4.new ((w3.alloc (.cells #[.int .i64 0, .int .i64 n, .string noText, .slice none 0 0] 40)).alloc (.cells #[.int .i64 1, .int .i64 0, .string s, .slice none 0 0] 40)) (.mk 2 0 noText l) (.slice Av l.length capv)
    rw [World.size_alloc, World.size_alloc] at h
    exact h
  have Y4 : Below w3.heap.size w3 (((w3.alloc (.cells #[.int .i64 0, .int .i64 n, .string noText, .slice none 0 0] 40)).alloc (.cells #[.int .i64 1, .int .i64 0, .string s, .slice none 0 0] 40)).alloc (.cells #[.int .i64 2, .int .i64 0, .string noText, .slice Av l.length capv] 40)) := (((Below.refl _ _).alloc (Nat.le_refl _) _).alloc (by simp) _).alloc (by simp; omega) _
  have hz : w3.heap.size + 2 < ((((w3.alloc (.cells #[.int .i64 0, .int .i64 n, .string noText, .slice none 0 0] 40)).alloc (.cells #[.int .i64 1, .int .i64 0, .string s, .slice none 0 0] 40)).alloc (.cells #[.int .i64 2, .int .i64 0, .string noText, .slice Av l.length capv] 40))).heap.size := by simp
  generalize (((w3.alloc (.cells #[.int .i64 0, .int .i64 n, .string noText, .slice none 0 0] 40)).alloc (.cells #[.int .i64 1, .int .i64 0, .string s, .slice none 0 0] 40)).alloc (.cells #[.int .i64 2, .int .i64 0, .string noText, .slice Av l.length capv] 40)) = w4 at X7 X8 X9 Y4 hz ⊢
  have HB4 := Lib.hid (HB3.out.trans (Y4.mono hs3))
  have HV4 := Lib.hid (HV3.out.on Y4)
  have HX7 := Lib.hid X7
  have HX8 := Lib.hid X8
  have HX9 := Lib.hid X9
  have hs4 := HB4.out.size
  obtain ⟨bx, hbx⟩ : ∃ bx, w3.heap.size = bx := ⟨_, rfl⟩
  rw [hbx] at HX7 HX8 HX9 hz ⊢
  clear X7 X8 X9 Y4 HB3 HV3 hbx
  refine (known_calls w4).mono ?_
  rintro e w5 ⟨rfl, B5⟩
  have HB5 := Lib.hid (HB4.out.trans (B5.mono hs4))
  have HV5 := Lib.hid (HV4.out.on B5)
  have HX7' := Lib.hid (HX7.out.low B5)
  have HX8' := Lib.hid (HX8.out.low B5)
  have hX9 := HX9.out.low B5
  have hs5 := HB5.out.size
  have hbz : bx + 2 < w5.heap.size := by have := B5.size; omega
  obtain ⟨a0, a1, a2, a3⟩ := HX7'.out.cells
  obtain ⟨b0, b1, b2, b3⟩ := HX8'.out.cells
  obtain ⟨c0, c1, c2, c3⟩ := hX9.cells
  clear B5 HB4 HV4 HX7 HX8 HX9 hX9 hs4
  simp only [intItem, textItem, emptyText, Item.kind, Item.n, Item.s] at a0 a1 a2 a3 b0 b1 b2 b3 c0 c1 c2 c3
  have Y6 : Below w5.heap.size w5 ((w5.alloc (.cells #[.int .i64 0, .int .i64 n, .string ⟨#[]⟩, .slice none 0 0, .int .i64 1, .int .i64 0, .string s, .slice none 0 0, .int .i64 2, .int .i64 0, .string noText, .slice Av l.length capv] 40)).alloc (.cells #[.int .i64 0, .int .i64 n, .string ⟨#[]⟩, .slice none 0 0, .int .i64 1, .int .i64 0, .string s, .slice none 0 0, .int .i64 2, .int .i64 0, .string ⟨#[]⟩, .slice A len cap] 40)) := ((Below.refl _ _).alloc (Nat.le_refl _) _).alloc (by simp) _
  have hz6 : w5.heap.size + 2 = (((w5.alloc (.cells #[.int .i64 0, .int .i64 n, .string ⟨#[]⟩, .slice none 0 0, .int .i64 1, .int .i64 0, .string s, .slice none 0 0, .int .i64 2, .int .i64 0, .string noText, .slice Av l.length capv] 40)).alloc (.cells #[.int .i64 0, .int .i64 n, .string ⟨#[]⟩, .slice none 0 0, .int .i64 1, .int .i64 0, .string s, .slice none 0 0, .int .i64 2, .int .i64 0, .string ⟨#[]⟩, .slice A len cap] 40))).heap.size := by simp
  have J1 : Old (w5.heap.size + 2) ((w5.alloc (.cells #[.int .i64 0, .int .i64 n, .string ⟨#[]⟩, .slice none 0 0, .int .i64 1, .int .i64 0, .string s, .slice none 0 0, .int .i64 2, .int .i64 0, .string noText, .slice Av l.length capv] 40)).alloc (.cells #[.int .i64 0, .int .i64 n, .string ⟨#[]⟩, .slice none 0 0, .int .i64 1, .int .i64 0, .string s, .slice none 0 0, .int .i64 2, .int .i64 0, .string ⟨#[]⟩, .slice A len cap] 40)) (.slice (some ⟨w5.heap.size, 0, none⟩) 3 3) (three n s l) := by
    have h := lit_items (S := fun b => b < w5.heap.size + 1) w5 (three n s l) (fun j => if j = 2 then .slice Av l.length capv else .slice none 0 0) #[.int .i64 0, .int .i64 n, .string ⟨#[]⟩, .slice none 0 0, .int .i64 1, .int .i64 0, .string s, .slice none 0 0, .int .i64 2, .int .i64 0, .string noText, .slice Av l.length capv] 3 w5.heap.size rfl rfl rfl (by omega) (three_kids n s (Items.more (by omega) (Items.low ((Below.refl _ _).alloc (Nat.le_refl _) _) HV5.out)))
    exact Items.more (by omega) (Items.low ((Below.refl _ _).alloc (by simp) _) h)
  have J2 : Old (w5.heap.size + 2) ((w5.alloc (.cells #[.int .i64 0, .int .i64 n, .string ⟨#[]⟩, .slice none 0 0, .int .i64 1, .int .i64 0, .string s, .slice none 0 0, .int .i64 2, .int .i64 0, .string noText, .slice Av l.length capv] 40)).alloc (.cells #[.int .i64 0, .int .i64 n, .string ⟨#[]⟩, .slice none 0 0, .int .i64 1, .int .i64 0, .string s, .slice none 0 0, .int .i64 2, .int .i64 0, .string ⟨#[]⟩, .slice A len cap] 40)) (.slice (some ⟨w5.heap.size + 1, 0, none⟩) 3 3) (three n s l) :=
    lit_items _ (three n s l) (fun j => if j = 2 then .slice A len cap else .slice none 0 0) #[.int .i64 0, .int .i64 n, .string ⟨#[]⟩, .slice none 0 0, .int .i64 1, .int .i64 0, .string s, .slice none 0 0, .int .i64 2, .int .i64 0, .string ⟨#[]⟩, .slice A len cap] 3 (w5.heap.size + 1) (by simp) rfl rfl (by omega) (three_kids n s (Items.more (by omega) (Items.low (Y6.mono hs5) (Items.low HB5.out HI.out))))
  have HY6 := Lib.hid Y6
  have HZ6 := Lib.hid hz6
  have HJ1 := Lib.hid J1
  have HJ2 := Lib.hid J2
  clear Y6 hz6 J1 J2 HV5
  go_wp2_with fail
  have Y6 := HY6.out
  have hz6 := HZ6.out
  have J1 := HJ1.out
  have J2 := HJ2.out
  clear HY6 HZ6 HJ1 HJ2 a0 a1 a2 a3 b0 b1 b2 b3 c0 c1 c2 c3
  generalize ((w5.alloc (.cells #[.int .i64 0, .int .i64 n, .string ⟨#[]⟩, .slice none 0 0, .int .i64 1, .int .i64 0, .string s, .slice none 0 0, .int .i64 2, .int .i64 0, .string noText, .slice Av l.length capv] 40)).alloc (.cells #[.int .i64 0, .int .i64 n, .string ⟨#[]⟩, .slice none 0 0, .int .i64 1, .int .i64 0, .string s, .slice none 0 0, .int .i64 2, .int .i64 0, .string ⟨#[]⟩, .slice A len cap] 40)) = w6 at Y6 hz6 J1 J2 ⊢
  have hsz3 := three_sized (n := n) hn1 hn2 hs hlong HF.out.1
  have cS := refsame_calls (nodesL (three n s l) + 1) (three n s l) (three n s l) (by omega) (show (3 : Nat) ≤ 9223372036854775807 by decide) (show (3 : Nat) ≤ 9223372036854775807 by decide) hsz3 hsz3 _ _ _ _ w6 J1 J2
  rw [eqB_true rfl] at cS
  refine cS.mono ?_
  rintro e w7 ⟨rfl, hd⟩
  have Y7 : Below w5.heap.size w5 w7 := by
    obtain ⟨d, rfl⟩ := hd
    exact below_drewN' Y6 d
  have HB7 := Lib.hid (HB5.out.trans (Y7.mono hs5))
  have HX7 := Lib.hid (HX7'.out.low Y7)
  have HX8 := Lib.hid (HX8'.out.low Y7)
  have hs7 := HB7.out.size
  have hbz7 : bx + 2 < w7.heap.size := by have := Y7.size; omega
  clear hd Y6 hz6 J1 J2 hsz3 cS Y7 HB5 HX7' HX8' hs5 hbz
  obtain ⟨a0, a1, a2, a3⟩ := HX7.out.cells
  obtain ⟨b0, b1, b2, b3⟩ := HX8.out.cells
  simp only [intItem, textItem, emptyText, Item.kind, Item.n, Item.s] at a0 a1 a2 a3 b0 b1 b2 b3
  have cE := encode_calls (two n s) (by have := more_sized (n := n) hn1 hn2 hs (show sizedL [] by rw [sizedL]; trivial); simpa using this) (show (2 : Nat) ≤ 9223372036854775807 by decide) (.slice (some ⟨w7.heap.size, 0, none⟩) 2 2) (w7.alloc (.cells #[.int .i64 0, .int .i64 n, .string ⟨#[]⟩, .slice none 0 0, .int .i64 1, .int .i64 0, .string s, .slice none 0 0] 40))
    (lit_items w7 (two n s) (fun _ => .slice none 0 0) _ 2 w7.heap.size rfl rfl rfl (by simp) (two_kids n s))
  obtain ⟨⟨bs1, e1⟩, hE1⟩ : ∃ R, encN (two n s) = R := ⟨_, rfl⟩
  rw [hE1] at cE
  have CE := Lib.hid cE
  have HE1 := Lib.hid hE1
  clear cE hE1
  go_wp2_with fail
  refine CE.out.mono ?_
  rintro e w8 ⟨v8, rfl, O8, B8⟩
  have Y8 : Below w7.heap.size w7 w8 := ((Below.refl _ _).alloc (Nat.le_refl _) (.cells #[.int .i64 0, .int .i64 n, .string ⟨#[]⟩, .slice none 0 0, .int .i64 1, .int .i64 0, .string s, .slice none 0 0] 40)).trans (B8.mono (by simp))
  have HB8 := Lib.hid (HB7.out.trans (Y8.mono hs7))
  have HX7a := Lib.hid (HX7.out.low Y8)
  have HX8a := Lib.hid (HX8.out.low Y8)
  have hs8 := HB8.out.size
  have HO8 := Lib.hid O8
  have cE := encode_calls l HF.out.1 hlong (.slice A len cap) w8 (HI.out.on HB8.out)
  obtain ⟨⟨bs2, e2⟩, hE2⟩ : ∃ R, encN l = R := ⟨_, rfl⟩
  rw [hE2] at cE
  have CE2 := Lib.hid cE
  have HE2 := Lib.hid hE2
  clear CE cE hE2 O8 B8 Y8 HB7 HX7 HX8 hs7 hbz7 a0 a1 a2 a3 b0 b1 b2 b3
  go_wp2_with fail
  refine CE2.out.mono ?_
  rintro e w9 ⟨v9, rfl, O9, B9⟩
  have HB9 := Lib.hid (HB8.out.trans (B9.mono hs8))
  have HX7 := Lib.hid (HX7a.out.low B9)
  have HX8 := Lib.hid (HX8a.out.low B9)
  have HO8a := Lib.hid (HO8.out.below B9)
  have HO9 := Lib.hid O9
  have hs9 := HB9.out.size
  clear CE2 O9 B9 HB8 HX7a HX8a HO8 hs8
  obtain ⟨a0, a1, a2, a3⟩ := HX7.out.cells
  obtain ⟨b0, b1, b2, b3⟩ := HX8.out.cells
  simp only [intItem, textItem, emptyText, Item.kind, Item.n, Item.s] at a0 a1 a2 a3 b0 b1 b2 b3
  have hown := lit_own w9 (two n s) (fun _ => .slice none 0 0) #[.int .i64 0, .int .i64 n, .string ⟨#[]⟩, .slice none 0 0, .int .i64 1, .int .i64 0, .string s, .slice none 0 0] 2 w9.heap.size rfl rfl (by decide) rfl (fun _ _ => rfl)
  obtain ⟨v10, w10, val10, hrun, O10, G10, _, hval, hkid⟩ := run_append_read (w9.alloc (.cells #[.int .i64 0, .int .i64 n, .string ⟨#[]⟩, .slice none 0 0, .int .i64 1, .int .i64 0, .string s, .slice none 0 0] 40)) 22 hown (Items.low ((Below.refl _ _).alloc hs9 _) (Items.low HB9.out HI.out)) (by have := HF.out.2.2; show (2 + l.length) * 56 ≤ _; omega) (by simp)
  have Y10 : Below w9.heap.size w9 w10 := ((Below.refl _ _).alloc (Nat.le_refl _) _).grown G10 (by simp) (fun k hk => by simp only [Value.ownBlock, Option.some.injEq] at hk; omega)
  have hsz10 : w9.heap.size ≤ w10.heap.size := Y10.size
  have hIall : Old w10.heap.size w10 v10 (two n s ++ l) := by
    refine O10.items (fun b hb => (O10.1.lt b hb).2) (fun j x hx => ?_)
    by_cases hj : j < 2
    · rw [List.getElem?_append_left (show j < (two n s).length from hj)] at hx
      rw [hval j hj]
      exact two_kids n s j x hx
    · rw [List.getElem?_append_right (show (two n s).length ≤ j by show 2 ≤ j; omega)] at hx
      have h := hkid (j - 2) x hx
      rw [show (two n s).length + (j - 2) = j by show 2 + (j - 2) = j; omega] at h
      exact h.keep (fun b hb => by
        have h1 := HB9.out.size
        have h2 := G10.block b (by simp; omega) (by simp only [Value.ownBlock, ne_eq, Option.some.injEq]; omega)
        exact h2) (fun b hb => by omega)
  have cE := encode_calls (two n s ++ l) (more_sized hn1 hn2 hs HF.out.1) (by have := HF.out.2.2; rw [List.length_append]; show 2 + l.length ≤ _; omega) v10 w10 hIall
  obtain ⟨⟨bs3, e3⟩, hE3⟩ : ∃ R, encN (two n s ++ l) = R := ⟨_, rfl⟩
  rw [hE3] at cE
  have CE3 := Lib.hid cE
  have HE3 := Lib.hid hE3
  have HR := Lib.hid hrun
  have HB10 := Lib.hid (HB9.out.trans (Y10.mono hs9))
  have HO8b := Lib.hid (HO8a.out.below Y10)
  have HO9b := Lib.hid (HO9.out.below Y10)
  have hs10 := HB10.out.size
  clear cE hE3 hrun hown O10 G10 hval hkid hIall Y10 HB9 HO8a HO9 hsz10
  go_wp2_with (at_builtin; refine wpList_append_ran rfl _ _ _ rfl rfl rfl HR.out ?_)
  refine CE3.out.mono ?_
  rintro e w11 ⟨v11, rfl, O11, B11⟩
  have HB11 := Lib.hid (HB10.out.trans (B11.mono hs10))
  have HO8c := Lib.hid (HO8b.out.below B11)
  have HO9c := Lib.hid (HO9b.out.below B11)
  have HO11 := Lib.hid O11
  have hs11 := HB11.out.size
  clear CE3 HR O11 B11 HB10 HO8b HO9b HX7 HX8 a0 a1 a2 a3 b0 b1 b2 b3 hs9 hs10
  have h12 : e1 = 0 ∨ (e1 = 2 ∧ 60000 < s.size) := by
    have h1 := enc_two n s
    have h2 := two_length n s
    rw [show encN [intItem n, textItem s] = (bs1, e1) from HE1.out] at h1
    split at h1
    · simp only [Prod.mk.injEq] at h1; exact .inr ⟨h1.2, by omega⟩
    · simp only [Prod.mk.injEq] at h1; exact .inl h1.2
  rcases h12 with rfl | ⟨rfl, hbig⟩
  · by_cases he2 : e2 = 0
    · subst he2
      have h3 := enc_more n s l (by rw [HE2.out])
      rw [show encN ([intItem n, textItem s] ++ l) = (bs3, e3) from HE3.out] at h3
      rcases h3 with h3 | h3
      · simp only at h3
        subst h3
        have k1 := enc_ok (l := two n s) (by rw [HE1.out])
        have k2 := enc_ok (l := l) (by rw [HE2.out])
        have k3 := enc_ok (l := two n s ++ l) (by rw [HE3.out])
        rw [HE1.out] at k1
        rw [HE2.out] at k2
        rw [HE3.out] at k3
        obtain ⟨i0, hi, hz0, hz1, hz2⟩ := info_parts info_u8w
        have q1 : bs1.length ≤ 65536 := by rw [show bs1 = bytesL (two n s) from k1.1]; exact k1.2
        have q2 : bs2.length ≤ 65536 := by rw [show bs2 = bytesL l from k2.1]; exact k2.2
        have q3 : bs3 = bs1 ++ bs2 := by rw [show bs3 = bytesL (two n s ++ l) from k3.1, bytesL_append, show bs1 = bytesL (two n s) from k1.1, show bs2 = bytesL l from k2.1]
        have Q3 := Lib.hid q3
        have hO0 : OwnB (w11.alloc (.cells #[] 5)) w11.heap.size 5 (.slice (some ⟨w11.heap.size, 0, none⟩) 0 0) [] := ⟨World.ownsRow_made w11 #[] 0 (Nat.le_refl _) (by simp [maxLen]) rfl, by simp⟩
        have P8 := (HO8c.out.alloc (.cells #[] 5)).bytes
        clear k1 k2 k3 q3
        go_wp2_with (at_builtin; refine wpList_append_bytes rfl _ _ _ rfl Try.underlying23 hi hz0 hz1 hz2 rfl rfl rfl hO0 P8 (by simp; omega) (by simp) ?next)
        case next =>
          intro v12 w12 O12 G12
          have Y12 : Below w11.heap.size w11 w12 := ((Below.refl _ _).alloc (Nat.le_refl _) _).grown G12 (by simp) (fun k hk => by simp only [Value.ownBlock, Option.some.injEq] at hk; omega)
          have P9 := (HO9c.out.below Y12).bytes
          have hs12 := Y12.size
          have HY12 := Lib.hid Y12
          clear hO0 P8 G12 Y12
          go_wp2_with (at_builtin; refine wpList_append_bytes rfl _ _ _ rfl Try.underlying23 hi hz0 hz1 hz2 rfl rfl rfl O12 P9 (by first | omega | (simp; omega)) hs12 ?next2)
          case next2 =>
            intro v13 w13 O13 G13
            have Y13 := below_append HY12.out G13 O12 (Nat.le_refl _) hs12
            have cS := same_true v11 v13 bs3 w13 (HO11.out.below Y13).bytes (by rw [Q3.out]; simpa using O13.bytes)
            have CS := Lib.hid cS
            have HB13 := Lib.hid (HB11.out.trans (Y13.mono hs11))
            clear cS O13 G13 Y13 O12 P9 hs12 HY12
            go_wp2_with fail
            refine CS.out.mono ?_
            rintro e W ⟨rfl, rfl⟩
            go_wp2
            go_ret
            exact ⟨rfl, HB13.out⟩
      · simp only at h3
        subst h3
        go_wp2
        go_ret
        exact ⟨rfl, HB11.out⟩
    · have heI : ¬ (e2 : Int) = 0 := by omega
      go_wp2
      go_ret
      exact ⟨rfl, HB11.out⟩
  · have hbI : 60000 < (s.size : Int) := by omega
    go_wp2
    go_ret
    exact ⟨rfl, HB11.out⟩

end Go.Proofs.Ytjeklbgonnbocaa.Wire
