/-
  The document's own bytes of items. The document's own check and size of items. How many bytes the texts of items have, by the document's own count, which stops above the limit.
-/
import Derived.Test.YtffehnojcajhiaaWireAppend
import Derived.Deep.RegionWith
import Derived.Deep.RegionLaw
import Derived.Deep.DeepCutAuto
import Derived.IntWalk
import Derived.Test.YtffehnojcajhiaaWireApt
import Derived.BigQuiet
import Derived.Deep.QuietTactic
namespace Go.Proofs.Ytffehnojcajhiaa.Wire
open Go Go.RowKit Go.Proofs.Ytffehnojcajhiaa.Law

/-- What stands while an item's bytes are put behind: the bytes so far, the item's own box; the digits and the list's bytes, once they are there. -/
def RS (w : World) (base bx nn : Nat) (x : Item) (u : Value) (d k : Option Value) (v : Value) (ys : List Nat) (W : World) : Prop :=
  OwnB W base 5 v ys ∧ Boxed4 W bx x u ∧ Apt base w W ∧ base ≤ W.heap.size ∧ (∀ dv, d = some dv → Bytes W.heap.size W dv (num nn)) ∧ (∀ kv, k = some kv → Bytes W.heap.size W kv (bytesL x.kids) ∧ (0 < (bytesL x.kids).length → kv.ownBlock ≠ v.ownBlock))

section
variable {w W W' : World} {base bx nn : Nat} {x : Item} {u v : Value} {d k : Option Value} {ys : List Nat}
theorem RS.below (h : RS w base bx nn x u d k v ys W) (hB : Below W.heap.size W W') : RS w base bx nn x u d k v ys W' := by
  obtain ⟨h1, h2, h3, h4, h5, h6⟩ := h
  exact ⟨h1.below hB, (hB.block bx (lt_of_some h2)).trans h2, h3.then_below hB h4, Nat.le_trans h4 hB.size, fun dv e => (h5 dv e).on hB, fun kv e => ⟨(h6 kv e).1.on hB, (h6 kv e).2⟩⟩
theorem RS.drew (h : RS w base bx nn x u d k v ys W) : RS w base bx nn x u d k v ys W.drew := h.below (Below.refl _ _).drew
theorem RS.cells (h : RS w base bx nn x u d k v ys W) : W.cell? ⟨bx, 0, none⟩ = some (.int .i64 x.kind) ∧ W.cell? ⟨bx, 1, none⟩ = some (.int .i64 x.n) ∧ W.cell? ⟨bx, 2, none⟩ = some (.string x.s) ∧ W.cell? ⟨bx, 3, none⟩ = some u := h.2.1.cells
theorem bytes_grown {n : Nat} {sv : Value} {bs : List Nat} {row : Option Nat} (h : Bytes W.heap.size W sv bs) (hg : W.grownBy W' row) (hne : 0 < bs.length → sv.ownBlock ≠ row) (hn : W'.heap.size = n) : Bytes n W' sv bs := by
  subst hn
  obtain ⟨A, cap, rfl, h1, h2, h3, h4⟩ := h
  refine ⟨A, cap, rfl, h1, h2, h3, fun hp => ?_⟩
  obtain ⟨b, off, rfl, hb, hc⟩ := h4 hp
  refine ⟨b, off, rfl, Nat.lt_of_lt_of_le hb hg.size, fun j hj => ?_⟩
  rw [← hc j hj]
  exact World.cell?_of_block (a := ⟨b, off + j, none⟩) (hg.block b hb (hne hp))
theorem RS.append (h : RS w base bx nn x u d k v ys W) {v1 : Value} {zs : List Nat} (O1 : OwnB W' base 5 v1 (ys ++ zs)) (G1 : W.grownBy W' v.ownBlock) (hor : v1.ownBlock = v.ownBlock ∨ v1.ownBlock = some W.heap.size) : RS w base bx nn x u none k v1 (ys ++ zs) W' := by
  obtain ⟨h1, h2, h3, h4, h5, h6⟩ := h
  have hA := (Apt.refl base W).grown G1 h1 (Nat.le_refl _) h4
  refine ⟨O1, h2.apt hA, h3.trans hA, Nat.le_trans h4 hA.size, fun dv e => by (cases e), fun kv e => ⟨bytes_grown (h6 kv e).1 G1 (h6 kv e).2 rfl, fun hp => ?_⟩⟩
  rcases hor with h7 | h7
  · rw [h7]; exact (h6 kv e).2 hp
  · rw [h7]
    obtain ⟨A, cap, rfl, _, _, _, h8⟩ := (h6 kv e).1
    obtain ⟨b, off, rfl, hb, _⟩ := h8 hp
    intro e2
    simp only [Value.ownBlock, Option.some.injEq] at e2
    omega
theorem RS.digits (h : RS w base bx nn x u none k v ys W) {dv : Value} (hO : OwnB W' W.heap.size 5 dv (num nn)) (hB : Below W.heap.size W W') : RS w base bx nn x u (some dv) k v ys W' := by
  obtain ⟨h1, h2, h3, h4, h5, h6⟩ := h.below hB
  exact ⟨h1, h2, h3, h4, fun e he => (by cases he; exact hO.bytes), h6⟩
theorem RS.kids (h : RS w base bx nn x u d none v ys W) {kv : Value} (hO : OwnB W' W.heap.size 5 kv (bytesL x.kids)) (hB : Below W.heap.size W W') : RS w base bx nn x u d (some kv) v ys W' := by
  have hl := h.1.1.lt
  obtain ⟨h1, h2, h3, h4, h5, h6⟩ := h.below hB
  refine ⟨h1, h2, h3, h4, h5, fun e he => ?_⟩
  cases he
  refine ⟨hO.bytes, fun hp e2 => ?_⟩
  obtain ⟨g, cap, rfl, hg, _⟩ := hO.form hp
  have := hl g e2.symm
  omega
end

/-- The four cells of a box. -/
def C4 (W : World) (bx : Nat) (x : Item) (u : Value) : Prop := W.cell? ⟨bx, 0, none⟩ = some (.int .i64 x.kind) ∧ W.cell? ⟨bx, 1, none⟩ = some (.int .i64 x.n) ∧ W.cell? ⟨bx, 2, none⟩ = some (.string x.s) ∧ W.cell? ⟨bx, 3, none⟩ = some u

set_option maxRecDepth 100000 in
set_option maxHeartbeats 8000000 in
theorem refbytes_calls : ∀ (m : Nat) (l : List Item), nodesL l < m → sizedL l → fineL l → (bytesL l).length ≤ 140737488355000 → ∀ (sv : Value) (base : Nat) (w : World), Old base w sv l → base ≤ w.heap.size →
    Calls Try.prog 37 #[sv] w (Owned base w (bytesL l)) := by
  intro m
  induction m with
  | zero => exact fun _ h => absurd h (Nat.not_lt_zero _)
  | succ m ih =>
    intro l hm hsz hfine hroom sv base w hI hb
    obtain ⟨i0, hi, hz0, hz1, hz2⟩ := info_parts info_u8w
    obtain ⟨A, cap, rfl, hcap⟩ := hI.form
    have hlb := length_le_bytes l
    obtain ⟨len, hlen⟩ : ∃ len, l.length = len := ⟨_, rfl⟩
    have hlong : len ≤ 140737488355000 := by omega
    clear hlb
    rw [hlen] at hI ⊢
    have HI := Lib.hid hI
    have HL := Lib.hid hlen
    have HM := Lib.hid hm
    have HS := Lib.hid hsz
    have HFN := Lib.hid hfine
    have hB := Apt.refl base w
    clear hI hlen hm hsz hfine
    go_enter Try.func37, Try.ntmps37
    go_wp2_with fail
    go_loopw [3, 4] (fun u i wr => ∃ k : Nat, i = .int .i64 k ∧ k ≤ len ∧ OwnB wr base 5 u (bytesL (l.take k)) ∧ Apt base w wr) (fun _ i _ => len - (intOf i).toNat)
    case atStart => exact ⟨0, rfl, Nat.zero_le _, ⟨by simpa [vals, bytesL] using World.ownsRow_nil w base 5 1, by simp [bytesL]⟩, hB⟩
    case round =>
      obtain ⟨k, rfl, hk, h1, h2⟩ := hrel
      have H1 := Lib.hid h1
      clear h1
      have hs := Nat.le_trans hb h2.size
      by_cases hlt : k < len
      · obtain ⟨x, hx⟩ : ∃ x, l[k]? = some x := ⟨_, List.getElem?_eq_getElem (by rw [HL.out]; exact hlt)⟩
        obtain ⟨bk, off, rfl, hbk, hcells⟩ := (HI.out.low h2.low).at (by omega)
        obtain ⟨u, ⟨c0, c1, c2, c3⟩, hkid⟩ := hcells k x hx
        obtain ⟨A', cap', rfl, hcap'⟩ := hkid.form
        obtain ⟨hk1, hk2, hn1, hn2, hs1, hl1⟩ := sized_of (sizedL_get hx HS.out)
        have hno := no_lt (sizedL_get hx HS.out)
        have hform := fine_form (fineL_get hx HFN.out)
        have hsum : bytesL (l.take (k + 1)) = bytesL (l.take k) ++ ([(x.kind % 256).toNat] ++ (num x.no ++ (sb x.s ++ bytesL x.kids))) := by
          rw [bytesL_take_succ hx, bytes_eq]; simp
        have hfit : (bytesL (l.take (k + 1))).length ≤ 140737488355000 := by have := bytesL_take_le l (k + 1); omega
        rw [hsum] at hfit
        simp only [List.length_append, List.length_cons, List.length_nil, sb_length] at hfit
        obtain ⟨kl, hkl⟩ : ∃ kl, x.kids.length = kl := ⟨_, rfl⟩
        rw [hkl] at hkid hcap' hl1 c3
        have HSUM := Lib.hid hsum
        have HX := Lib.hid hx
        have HK := Lib.hid hkid
        have HFIT := Lib.hid hfit
        have HKL := Lib.hid hkl
        have HFORM := Lib.hid hform
        clear hcells hx hkid hsum hfit hkl hform
        have hbox := Boxed4.new wr x (.slice A' kl cap')
        have HBOX := Lib.hid hbox
        clear hbox
        go_wp2_with (at_builtin; refine wpList_append_bytes rfl _ _ _ rfl Try.underlying48 hi hz0 hz1 hz2 rfl rfl rfl ((H1.out.alloc _).alloc _) (litAt _ _ _ [(x.kind % 256).toNat] 1 _ (by simp) (by rfl) (by decide) ?lit (by simp; omega)) (by have := HFIT.out; simp; omega) (by simp; omega) ?next)
        case lit =>
          simp only [vals, List.map_cons, List.map_nil]
          rw [show x.kind % 256 = (((x.kind % 256).toNat : Nat) : Int) by omega]; rfl
        case next =>
          intro v1 w1 O1 G1
          have A0 : Apt base wr (wr.alloc (.cells #[.int .i64 x.kind, .int .i64 x.n, .string x.s, .slice A' kl cap'] 71)) := (Apt.refl _ _).alloc hs _
          have A1 := (((Apt.refl base _).alloc (by simp; omega) _).grown G1 ((H1.out.alloc _).alloc _) (Nat.le_refl _) (by simp; omega))
          have hbox := HBOX.out.apt A1
          have AA := A0.trans A1
          have hs1' := Nat.le_trans hs AA.size
          have hRS : RS wr base wr.heap.size x.no x (.slice A' kl cap') none none v1 (bytesL (l.take k) ++ [(x.kind % 256).toNat]) w1 := ⟨O1, hbox, AA, hs1', fun _ e => by (cases e), fun _ e => by (cases e)⟩
          obtain ⟨d0, d1, d2, d3⟩ := hbox.cells
          have HRS := Lib.hid hRS
          clear G1 H1 HBOX hbox A0 A1 O1 AA hRS c0 c1 c2 c3
          have hgoal : ∀ v W, OwnB W base 5 v ((bytesL (l.take k) ++ [(x.kind % 256).toNat]) ++ (num x.no ++ (sb x.s ++ bytesL x.kids))) → Apt base wr W → OwnB W base 5 v (bytesL (l.take (k + 1))) ∧ Apt base w W := fun v W h1 h3 => ⟨by rw [HSUM.out, ← List.append_assoc]; exact h1, h2.trans h3⟩
          have HGOAL := Lib.hid hgoal
          clear hgoal
          have hend : ∀ (v : Value) (W : World), OwnB W base 5 v (bytesL (l.take (k + 1))) ∧ Apt base w W → ∃ k' : Nat, Value.int .i64 ((k : Int) + 1) = .int .i64 k' ∧ k' ≤ len ∧ OwnB W base 5 v (bytesL (l.take k')) ∧ Apt base w W := fun v W h => ⟨k + 1, by go_num, by omega, h.1, h.2⟩
          have HEND := Lib.hid hend
          clear hend
          obtain ⟨kb, hkb⟩ : ∃ kb, (x.kind % 256).toNat = kb := ⟨_, rfl⟩
          rw [hkb] at HRS HGOAL
          clear hkb
          by_cases hk0 : x.kind = 0
          · have hf := HFORM.out
            have hss : x.s.size = 0 ∧ x.kids.length = 0 := by rw [form_eq, hk0] at hf; simpa [formB] using hf
            have hsb : sb x.s = [] := List.eq_nil_of_length_eq_zero (by rw [sb_length]; exact hss.1)
            have hkk : bytesL x.kids = [] := by rw [List.eq_nil_of_length_eq_zero hss.2]; rfl
            have hnn : x.no = zig x.n := by unfold Item.no; rw [if_neg (by omega), if_neg (by omega)]
            have hz := zig_lt hn1 hn2
            have cD : ∀ z : Int, z = (zig x.n : Nat) → Calls Try.prog 54 #[.int .u64 z] w1 (Owned w1.heap.size w1 (num (zig x.n))) := fun z e => by rw [e]; exact refdigits_calls _ hz w1
            rw [hsb, hkk, hnn] at HGOAL
            rw [hnn] at HRS
            have hzn : (((zig x.n : Nat) : Int) = 2 * x.n ∧ 0 ≤ x.n) ∨ (((zig x.n : Nat) : Int) = 2 * -(x.n + 1) + 1 ∧ x.n < 0) := by unfold zig; split <;> omega
            obtain ⟨zz, hzz⟩ : ∃ zz, zig x.n = zz := ⟨_, rfl⟩
            rw [hzz] at cD HGOAL HRS hzn hz
            have hfit := HFIT.out
            rw [hnn, hzz] at hfit
            have HF2 := Lib.hid hfit
            have CD := Lib.hid cD
            clear hf hss hsb hkk hnn cD hfit hzz
            rcases hzn with ⟨hzn, hpos⟩ | ⟨hzn, hneg⟩
            · have HZN := Lib.hid hzn
              clear hzn
              go_wp2_with fail
              refine (CD.out _ (by rw [HZN.out])).mono ?_
              rintro e w2 ⟨dv, rfl, O2, A2⟩
              have hR2 := HRS.out.digits O2 A2.low
              have HR2 := Lib.hid hR2
              clear O2 A2 hR2 d0 d1 d2 d3
              go_wp2_with (at_builtin; refine wpList_append_bytes rfl _ _ _ rfl Try.underlying48 hi hz0 hz1 hz2 rfl rfl rfl HR2.out.1 (HR2.out.2.2.2.2.1 _ rfl) (by have := HF2.out; simp; omega) HR2.out.2.2.2.1 ?next)
              case next =>
                intro v3 w3 O3 G3
                have hfin := HGOAL.out v3 w3 (by simpa using O3) (HR2.out.2.2.1.grown G3 HR2.out.1 (Nat.le_refl _) HR2.out.2.2.2.1)
                have hfin2 := HEND.out v3 w3 hfin
                have HFIN := Lib.hid hfin2
                clear O3 G3 hfin hfin2 HR2
                go_wp2_with fail
                go_roundw
                case rel => exact HFIN.out
                case measure => simp [intOf]; omega
            · have HZN := Lib.hid hzn
              clear hzn
              go_wp2_with fail
              refine (CD.out _ (by rw [HZN.out])).mono ?_
              rintro e w2 ⟨dv, rfl, O2, A2⟩
              have hR2 := HRS.out.digits O2 A2.low
              have HR2 := Lib.hid hR2
              clear O2 A2 hR2 d0 d1 d2 d3
              go_wp2_with (at_builtin; refine wpList_append_bytes rfl _ _ _ rfl Try.underlying48 hi hz0 hz1 hz2 rfl rfl rfl HR2.out.1 (HR2.out.2.2.2.2.1 _ rfl) (by have := HF2.out; simp; omega) HR2.out.2.2.2.1 ?next)
              case next =>
                intro v3 w3 O3 G3
                have hfin := HGOAL.out v3 w3 (by simpa using O3) (HR2.out.2.2.1.grown G3 HR2.out.1 (Nat.le_refl _) HR2.out.2.2.2.1)
                have hfin2 := HEND.out v3 w3 hfin
                have HFIN := Lib.hid hfin2
                clear O3 G3 hfin hfin2 HR2
                go_wp2_with fail
                go_roundw
                case rel => exact HFIN.out
                case measure => simp [intOf]; omega
          · by_cases hk1 : x.kind = 1
            · have hf := HFORM.out
              have hss : x.n = 0 ∧ x.kids.length = 0 := by rw [form_eq, hk1] at hf; simpa [formB] using hf
              have hkk : bytesL x.kids = [] := by rw [List.eq_nil_of_length_eq_zero hss.2]; rfl
              have hnn : x.no = x.s.size := by unfold Item.no; rw [if_pos hk1]
              obtain ⟨sl, hsl⟩ : ∃ sl, x.s.size = sl := ⟨_, rfl⟩
              rw [hkk, hnn, hsl] at HGOAL
              rw [hnn, hsl] at HRS
              rw [hsl] at hs1
              have hfit := HFIT.out
              rw [hnn, hsl] at hfit
              have cD : ∀ (z : Int) W, z = (sl : Nat) → RS wr base wr.heap.size sl x (.slice A' kl cap') none none v1 (bytesL (l.take k) ++ [kb]) W → Calls Try.prog 54 #[.int .u64 z] W fun e W' => ∃ dv, e = .returned dv ∧ Hid (RS wr base wr.heap.size sl x (.slice A' kl cap') (some dv) none v1 (bytesL (l.take k) ++ [kb]) W') ∧ W'.cell? ⟨wr.heap.size, 2, none⟩ = some (.string x.s) := fun z W e hW => by
                rw [e]
                refine (refdigits_calls sl (by omega) W).mono ?_
                rintro e w2 ⟨dv, rfl, O2, A2⟩
                have h := hW.digits O2 A2.low
                exact ⟨dv, rfl, Lib.hid h, h.cells.2.2.1⟩
              have hwu : IntKind.u64.wrap (sl : Int) = (sl : Nat) := by rw [IntKind.wrap_u64]; omega
              have HSL := Lib.hid hsl
              have HF2 := Lib.hid hfit
              have CD := Lib.hid cD
              have HKIND := Lib.hid hk1
              clear hf hss hkk hnn cD hfit
              obtain ⟨bx, hbx⟩ : ∃ bx, wr.heap.size = bx := ⟨_, rfl⟩
              rw [hbx] at HRS CD d0 d1 d2 d3 ⊢
              go_wp2_with fail
              go_region_law (first
                | (go_simp; go_at_call 54; ((with_reducible refine (CD.out _ _ rfl ?_).mono ?_); (first | exact HRS.out | exact RS.drew HRS.out)); rintro e w' ⟨dv, rfl, hS1, d2'⟩)
                | (refine step_append_bytes_at rfl _ _ _ rfl Try.underlying48 hi hz0 hz1 hz2 rfl rfl rfl (Hid.out hS1).1 ((Hid.out hS1).2.2.2.2.1 _ rfl) (by have := HF2.out; simp; omega) (Hid.out hS1).2.2.2.1 ?_; intro v3 w3 O3 G3 hor; have hS2 := Lib.hid (RS.append (Hid.out hS1) O3 G3 hor); have d2'' := (Hid.out hS2).cells.2.2.1; clear O3 G3 hor)
                | (refine step_append_str rfl _ _ _ _ rfl Try.underlying48 Try.underlying9 hi hz0 hz1 hz2 rfl rfl (Hid.out hS2).1 (by have := HF2.out; rw [HSL.out]; simp; omega) (Hid.out hS2).2.2.2.1 ?_; intro v4 w4 O4 G4; have hfin := Lib.hid (HEND.out v4 w4 (HGOAL.out v4 w4 (by simpa using O4) ((Hid.out hS2).2.2.1.grown G4 (Hid.out hS2).1 (Nat.le_refl _) (Hid.out hS2).2.2.2.1))); clear O4 G4))
              all_goals
                clear hS1 hS2 d0 d1 d2 d3 hwu
                go_wp2_with fail
                go_roundw
                case rel => exact hfin.out
                case measure => simp [intOf]; omega
            · have hf := HFORM.out
              have hk2' : x.kind = 2 := by
                rw [form_eq] at hf; unfold formB at hf; rw [if_neg hk0, if_neg hk1] at hf
                by_cases h2 : x.kind = 2
                · exact h2
                · rw [if_neg h2] at hf; cases hf
              have hss : x.n = 0 ∧ x.s.size = 0 := by rw [form_eq, hk2'] at hf; simpa [formB] using hf
              have hsb : sb x.s = [] := List.eq_nil_of_length_eq_zero (by rw [sb_length]; exact hss.2)
              have hnn : x.no = kl := by unfold Item.no; rw [if_neg hk1, if_pos hk2', HKL.out]
              rw [hsb, hnn] at HGOAL
              rw [hnn] at HRS
              have hfit := HFIT.out
              rw [hnn] at hfit
              obtain ⟨ys, hys⟩ : ∃ ys, bytesL (l.take k) ++ [kb] = ys := ⟨_, rfl⟩
              have hyl : (bytesL (l.take k)).length + 1 = ys.length := by rw [← hys]; simp
              rw [hys] at HRS HGOAL
              have cD : ∀ (z : Int) (d : Option Value) W, z = (kl : Nat) → RS wr base wr.heap.size kl x (.slice A' kl cap') none d v1 ys W → Calls Try.prog 54 #[.int .u64 z] W fun e W' => ∃ dv, e = .returned dv ∧ Hid (RS wr base wr.heap.size kl x (.slice A' kl cap') (some dv) d v1 ys W') ∧ W'.cell? ⟨wr.heap.size, 3, none⟩ = some (.slice A' kl cap') := fun z d W e hW => by
                rw [e]
                refine (refdigits_calls kl (by omega) W).mono ?_
                rintro e w2 ⟨dv, rfl, O2, A2⟩
                have h := hW.digits O2 A2.low
                exact ⟨dv, rfl, Lib.hid h, h.cells.2.2.2⟩
              have cK : ∀ (d : Option Value) (v : Value) (zs : List Nat) W, RS wr base wr.heap.size kl x (.slice A' kl cap') d none v zs W → Calls Try.prog 37 #[.slice A' kl cap'] W fun e W' => ∃ kv, e = .returned kv ∧ Hid (RS wr base wr.heap.size kl x (.slice A' kl cap') d (some kv) v zs W') ∧ W'.cell? ⟨wr.heap.size, 3, none⟩ = some (.slice A' kl cap') := fun d v zs W hW => by
                refine (ih x.kids (by have := nodesL_kids HX.out; have := HM.out; omega) (sized_kids (sizedL_get HX.out HS.out)) (fine_kids (fineL_get HX.out HFN.out)) (by have := HFIT.out; omega) (.slice A' kl cap') W.heap.size W (Items.more hW.2.2.2.1 (HK.out.low hW.2.2.1.low)) (Nat.le_refl _)).mono ?_
                rintro e w2 ⟨kv, rfl, O2, A2⟩
                have h := hW.kids O2 A2.low
                exact ⟨kv, rfl, Lib.hid h, h.cells.2.2.2⟩
              have hwu : IntKind.u64.wrap (kl : Int) = (kl : Nat) := by rw [IntKind.wrap_u64]; omega
              have HF2 := Lib.hid hfit
              have CD := Lib.hid cD
              have CK := Lib.hid cK
              have HYL := Lib.hid hyl
              have HK2 := Lib.hid hk2'
              clear hf hss hsb hnn cD cK hfit hys hyl
              obtain ⟨bx, hbx⟩ : ∃ bx, wr.heap.size = bx := ⟨_, rfl⟩
              rw [hbx] at HRS CD CK d0 d1 d2 d3 ⊢
              clear ih HX HK HSUM HFIT HFORM HFN HS HM hbx HKL HL HI hB
              go_wp2_with fail
              go_region_law (first
                | (go_simp; go_at_call 54; (first | ((with_reducible refine (CD.out _ none _ rfl ?_).mono ?_); (first | exact HRS.out | exact RS.drew HRS.out)) | ((with_reducible refine (CD.out _ (some kv) _ rfl ?_).mono ?_); exact Hid.out hSK)); rintro e w' ⟨dv, rfl, hS1, d3'⟩)
                | (go_simp; go_at_call 37; (first | ((with_reducible refine (CK.out none v1 ys _ ?_).mono ?_); (first | exact HRS.out | exact RS.drew HRS.out)) | ((with_reducible refine (CK.out (some dv) v1 ys _ ?_).mono ?_); exact Hid.out hS1) | ((with_reducible refine (CK.out none v3 (ys ++ num kl) _ ?_).mono ?_); exact Hid.out hS2)); rintro e w' ⟨kv, rfl, hSK, d3k⟩)
                | (refine step_append_bytes_at rfl _ _ _ rfl Try.underlying48 hi hz0 hz1 hz2 rfl rfl rfl (Hid.out (by assumption : Hid (RS wr base bx kl x _ (some _) _ _ _ _))).1 ((Hid.out (by assumption : Hid (RS wr base bx kl x _ (some _) _ _ _ _))).2.2.2.2.1 _ rfl) (by have := HF2.out; have := HYL.out; omega) (Hid.out (by assumption : Hid (RS wr base bx kl x _ (some _) _ _ _ _))).2.2.2.1 ?_; intro v3 w3 O3 G3 hor; have hS2 := Lib.hid (RS.append (Hid.out (by assumption : Hid (RS wr base bx kl x (.slice A' kl cap') (some _) _ v1 _ _))) O3 G3 hor); have d3'' := (Hid.out hS2).cells.2.2.2; clear O3 G3 hor)
                | (refine step_append_bytes_at rfl _ _ _ rfl Try.underlying48 hi hz0 hz1 hz2 rfl rfl rfl (Hid.out (by assumption : Hid (RS wr base bx kl x _ none (some _) _ _ _))).1 ((Hid.out (by assumption : Hid (RS wr base bx kl x _ none (some _) _ _ _))).2.2.2.2.2 _ rfl).1 (by have := HF2.out; have := HYL.out; rw [List.length_append]; omega) (Hid.out (by assumption : Hid (RS wr base bx kl x _ none (some _) _ _ _))).2.2.2.1 ?_; intro v4 w4 O4 G4 hor4; have hlast := (Hid.out (by assumption : Hid (RS wr base bx kl x (.slice A' kl cap') none (some _) _ (ys ++ num kl) _))); have hfin := Lib.hid (HEND.out v4 w4 (HGOAL.out v4 w4 (by simpa using O4) (hlast.2.2.1.grown G4 hlast.1 (Nat.le_refl _) hlast.2.2.2.1))); clear O4 G4 hor4 hlast))
              all_goals
                clear d0 d1 d2 d3 hwu HRS CD CK
                go_wp2_with fail
                go_roundw
                case rel => exact hfin.out
                case measure => simp [intOf]; omega
      · obtain rfl : k = len := by omega
        go_wp2_with fail
        go_ret
        refine ⟨u3, rfl, ?_, h2⟩
        have := H1.out
        rw [List.take_of_length_le (by rw [HL.out]; exact Nat.le_refl _)] at this
        exact this

end Go.Proofs.Ytffehnojcajhiaa.Wire

namespace Go.Proofs.Ytffehnojcajhiaa.Wire
open Go Go.RowKit Go.Proofs.Ytffehnojcajhiaa.Law

/-- Two numbers; nothing that lay has turned. -/
def TwoNats (w : World) (R : Nat × Nat) (e : Ending) (W : World) : Prop := e = .returned (.tuple #[.int .i64 (R.1 : Nat), .int .i64 (R.2 : Nat)]) ∧ Below w.heap.size w W

set_option maxRecDepth 100000 in
set_option maxHeartbeats 4000000 in
theorem check_calls : ∀ (m : Nat) (l : List Item), nodesL l < m → sizedL l → l.length ≤ 9223372036854775807 → ∀ (sv : Value) (d c base : Nat) (w : World), Old base w sv l → base ≤ w.heap.size → d ≤ 9 → c ≤ 4096 →
    Calls Try.prog 35 #[sv, .int .i64 (d : Nat), .int .i64 (c : Nat)] w (TwoNats w (chkL d c l)) := by
  intro m
  induction m with
  | zero => exact fun _ h => absurd h (Nat.not_lt_zero _)
  | succ m ih =>
    intro l hm hsz hlong sv d c base w hI hbw hd hc
    obtain ⟨A, cap, rfl, hcap⟩ := hI.form
    obtain ⟨len, hlen⟩ : ∃ len, l.length = len := ⟨_, rfl⟩
    obtain ⟨R, hR⟩ : ∃ R, chkL d c l = R := ⟨_, rfl⟩
    rw [hR]
    rw [hlen] at hI hlong hcap ⊢
    have h0 : ∃ c0 : Nat, c0 ≤ 4096 ∧ chkL d c0 l = R ∧ ((c : Nat) : Int) = (c0 : Nat) := ⟨c, hc, hR, rfl⟩
    have H0 := Lib.hid h0
    have HI := Lib.hid hI
    have HL := Lib.hid hlen
    have HM := Lib.hid hm
    have HS := Lib.hid hsz
    clear h0 hI hlen hm hsz hR hc
    go_enter Try.func35, Try.ntmps35
    go_wp2_with fail
    go_loopw [8, 2] (fun i z wr => ∃ k c : Nat, i = .int .i64 k ∧ z = .int .i64 (c : Nat) ∧ k ≤ len ∧ c ≤ 4096 ∧ chkL d c (l.drop k) = R ∧ Below w.heap.size w wr) (fun i _ _ => len - (intOf i).toNat)
    case atStart =>
      obtain ⟨c0, h1, h2, h3⟩ := H0.out
      exact ⟨0, c0, rfl, by rw [h3], Nat.zero_le _, h1, h2, Below.refl _ _⟩
    case round =>
      obtain ⟨k, c, rfl, rfl, hk, hc, h3, h6⟩ := hrel
      have H3 := Lib.hid h3
      have hs := h6.size
      clear h3
      by_cases hlt : k < len
      · obtain ⟨x, hx⟩ : ∃ x, l[k]? = some x := ⟨_, List.getElem?_eq_getElem (by rw [HL.out]; exact hlt)⟩
        have hI6 := Items.low (h6.mono hbw) HI.out
        obtain ⟨bk, off, rfl, hbk, hcells⟩ := hI6.at (by omega)
        obtain ⟨u, ⟨c0, c1, c2, c3⟩, hkid⟩ := hcells k x hx
        obtain ⟨A', cap', rfl, hcap'⟩ := hkid.form
        obtain ⟨hk1, hk2, hn1, hn2, hs1, hl1⟩ := sized_of (sizedL_get hx HS.out)
        have hd3 : chkL d c (l.drop k) = if (chkI d c x).2 ≠ 0 then chkI d c x else chkL d (chkI d c x).1 (l.drop (k + 1)) := by rw [drop_get hx, chkL_cons]
        have hci := chkI_eq d c x
        have cF : ∀ W, Calls Try.prog 53 #[.agg #[.int .i64 x.kind, .int .i64 x.n, .string x.s, .slice A' x.kids.length cap']] W fun e W' => e = .returned (.bool x.form) ∧ Below W.heap.size W W' := fun W => refform x.kind x.n x.s A' x.kids.length cap' W
        obtain ⟨kl, hkl⟩ : ∃ kl, x.kids.length = kl := ⟨_, rfl⟩
        rw [hkl] at hkid hcap' hl1 cF c3
        have HKL := Lib.hid hkl
        have HX := Lib.hid hx
        have HK := Lib.hid hkid
        have CF := Lib.hid cF
        have HD3 := Lib.hid hd3
        have HCI := Lib.hid hci
        clear hI6 hcells hx hkid hd3 hci cF hkl
        go_wp2_with fail
        refine (CF.out _).mono ?_
        rintro e w2 ⟨rfl, B2⟩
        have hB2 := h6.trans (B2.mono hs)
        have cc0 : ∀ j, w2.cell? ⟨bk, j, none⟩ = wr.cell? ⟨bk, j, none⟩ := fun j => B2.cell (p := ⟨bk, j, none⟩) (by show bk < wr.heap.size; omega)
        have d3 := (cc0 _).trans c3
        have HB2 := Lib.hid hB2
        have HK2 := Lib.hid (Items.low (B2.mono (show base ≤ wr.heap.size by omega)) HK.out)
        clear c0 c1 c2 c3 cc0 B2 hB2 HK
        cases hform : x.form with
        | false =>
          have HFORM := Lib.hid hform
          clear hform
          go_wp2_with fail
          go_ret2
          have hRR : R = (c + 1, 3) := by
            rw [← H3.out, HD3.out, HCI.out, HFORM.out]; simp
          subst hRR
          exact ⟨rfl, HB2.out⟩
        | true =>
          have HFORM := Lib.hid hform
          clear hform
          by_cases hbig : 4096 < c + 1
          · have hbI : 4096 < ((c + 1 : Nat) : Int) := by omega
            go_wp2_with fail
            go_ret2
            have hRR : R = (c + 1, 2) := by
              have h1 : chkI d c x = (c + 1, 2) := by rw [HCI.out, HFORM.out, if_neg Bool.noConfusion, if_pos (Or.inl hbig)]
              rw [← H3.out, HD3.out, h1]; rfl
            rw [hRR]
            exact ⟨rfl, HB2.out⟩
          · have hbI : ((c + 1 : Nat) : Int) ≤ 4096 := by omega
            by_cases hdd : 8 < d
            · have hdI : 8 < (d : Int) := by omega
              go_wp2_with fail
              go_ret2
              have hRR : R = (c + 1, 2) := by
                have h1 : chkI d c x = (c + 1, 2) := by rw [HCI.out, HFORM.out, if_neg Bool.noConfusion, if_pos (Or.inr hdd)]
                rw [← H3.out, HD3.out, h1]; rfl
              rw [hRR]
              exact ⟨rfl, HB2.out⟩
            · have hdI : (d : Int) ≤ 8 := by omega
              obtain ⟨⟨c', e'⟩, hR'⟩ : ∃ R', chkL (d + 1) (c + 1) x.kids = R' := ⟨_, rfl⟩
              have hs2 := HB2.out.size
              have cR := ih x.kids (by have := nodesL_kids HX.out; have := HM.out; omega) (sized_kids (sizedL_get HX.out HS.out)) (by rw [HKL.out]; exact hl1) (.slice A' kl cap') (d + 1) (c + 1) base w2 HK2.out (by omega) (by omega) (by omega)
              rw [hR', show ((d + 1 : Nat) : Int) = (d : Int) + 1 by omega, show ((c + 1 : Nat) : Int) = (c : Int) + 1 by omega] at cR
              have hci' : chkI d c x = (c', e') := by
                rw [HCI.out, HFORM.out, if_neg Bool.noConfusion, if_neg (by omega)]; exact hR'
              have CR := Lib.hid cR
              have HCI' := Lib.hid hci'
              clear cR hR' hci'
              go_wp2_with fail
              refine CR.out.mono ?_
              rintro e w5 ⟨rfl, B5⟩
              have hB5 := HB2.out.trans (B5.mono hs2)
              have HB5 := Lib.hid hB5
              clear hB5 B5 CR d3
              by_cases he : e' = 0
              · subst he
                have hok := chkI_ok d c x (by rw [HCI'.out])
                have hck : c' = c + x.nodes := by have := hok.1; rw [HCI'.out] at this; exact this
                have hok3 := hok.2.2
                have h3' : chkL d c' (l.drop (k + 1)) = R := by rw [← H3.out, HD3.out, HCI'.out]; simp
                have hc6 : c' ≤ 4096 := by omega
                have HALL := Lib.hid (And.intro hc6 h3')
                clear hok hck hok3 h3' hc6
                go_wp2_with fail
                go_roundw
                case rel =>
                  obtain ⟨a1, a2⟩ := HALL.out
                  exact ⟨k + 1, c', by go_num, rfl, by omega, a1, a2, HB5.out⟩
                case measure => simp [intOf]; omega
              · have heI : ¬ (e' : Int) = 0 := by omega
                have hRR : R = (c', e') := by rw [← H3.out, HD3.out, HCI'.out]; simp [he]
                have HRR := Lib.hid hRR
                clear hRR
                go_wp2_with fail
                go_ret2
                rw [HRR.out]
                exact ⟨rfl, HB5.out⟩
      · obtain rfl : k = len := by omega
        have hRR : R = (c, 0) := by rw [← H3.out, List.drop_of_length_le (by rw [HL.out]; exact Nat.le_refl _), chkL_nil]
        have HRR := Lib.hid hRR
        clear hRR
        go_wp2_with fail
        go_ret2
        rw [HRR.out]
        exact ⟨rfl, h6⟩

end Go.Proofs.Ytffehnojcajhiaa.Wire

namespace Go.Proofs.Ytffehnojcajhiaa.Wire
open Go Go.RowKit Go.Proofs.Ytffehnojcajhiaa.Law

theorem ret_nat {k : IntKind} {a : Int} {b : Nat} (h : a = (b : Nat)) : Ending.returned (.int k a) = .returned (.int k (b : Nat)) := by rw [h]

mutual
/-- What an item adds to the count. -/
def Item.siz : Item → Nat
  | .mk _ _ s l => s.size + sizF 0 l
/-- The count, from n on: it stops above the limit. -/
def sizF (n : Nat) : List Item → Nat
  | [] => n
  | x :: r => if n ≤ 65536 then sizF (n + x.siz) r else n
end
theorem siz_eq (x : Item) : x.siz = x.s.size + sizF 0 x.kids := by cases x; rfl
theorem sizF_nil (n : Nat) : sizF n [] = n := by rw [sizF]
theorem sizF_cons (n : Nat) (x : Item) (r : List Item) : sizF n (x :: r) = if n ≤ 65536 then sizF (n + x.siz) r else n := by rw [sizF]
theorem sizF_big (n : Nat) (l : List Item) (h : 65536 < n) : sizF n l = n := by
  cases l with
  | nil => rw [sizF]
  | cons x r => rw [sizF, if_neg (by omega)]
mutual
theorem siz_le : ∀ x : Item, x.siz ≤ x.strs
  | .mk k n s l => by
    have := sizF_le 0 l
    rw [Item.siz, Item.strs]; omega
theorem sizF_le (n : Nat) : ∀ l : List Item, sizF n l ≤ n + strsL l
  | [] => by rw [sizF, strsL]; omega
  | x :: r => by
    have h1 := siz_le x
    have h2 := sizF_le (n + x.siz) r
    rw [sizF, strsL]
    split <;> omega
end
theorem sizF_ge (n : Nat) : ∀ l : List Item, n ≤ sizF n l
  | [] => by rw [sizF]; exact Nat.le_refl _
  | x :: r => by
    have h2 := sizF_ge (n + x.siz) r
    rw [sizF]
    split <;> omega
mutual
theorem siz_is : ∀ x : Item, x.siz ≤ 65536 → x.siz = x.strs
  | .mk k n s l => by
    intro h
    rw [Item.siz] at h ⊢
    have := sizF_is 0 l (by omega)
    rw [Item.strs]; omega
theorem sizF_is (n : Nat) : ∀ l : List Item, sizF n l ≤ 65536 → sizF n l = n + strsL l
  | [] => by intro _; rw [sizF, strsL]; rfl
  | x :: r => by
    intro h
    rw [sizF] at h ⊢
    split at h
    · rename_i hn
      have h0 := sizF_ge (n + x.siz) r
      have h1 := siz_is x (by omega)
      have h2 := sizF_is (n + x.siz) r h
      rw [if_pos hn, h2, strsL]; omega
    · omega
end

set_option maxRecDepth 100000 in
set_option maxHeartbeats 4000000 in
theorem size_calls : ∀ (m : Nat) (l : List Item), nodesL l < m → l.length ≤ 9223372036854775807 → strsL l ≤ 4611686018427387904 → sizedL l → ∀ (sv : Value) (S : Nat → Prop) (w : World), Items S w sv l →
    Calls Try.prog 36 #[sv] w fun e W => e = .returned (.int .i64 (sizF 0 l : Nat)) ∧ ∃ d, W = w.drewN d := by
  intro m
  induction m with
  | zero => exact fun _ h => absurd h (Nat.not_lt_zero _)
  | succ m ih =>
    intro l hm hlong hst hsz sv S w hI
    obtain ⟨A, cap, rfl, hcap⟩ := hI.form
    obtain ⟨len, hlen⟩ : ∃ len, l.length = len := ⟨_, rfl⟩
    obtain ⟨R, hR⟩ : ∃ R, sizF 0 l = R := ⟨_, rfl⟩
    have hRle : R ≤ strsL l := by have := sizF_le 0 l; omega
    rw [hR]
    rw [hlen] at hI hlong hcap ⊢
    have HI := Lib.hid hI
    have HL := Lib.hid hlen
    have HM := Lib.hid hm
    have HS := Lib.hid hsz
    have HR := Lib.hid hR
    have HST := Lib.hid hst
    have hRb : R ≤ 4611686018427387904 := by omega
    clear hI hlen hm hsz hR hst hRle
    go_enter Try.func36, Try.ntmps36
    go_wp2_with fail
    go_loopw [3, 4] (fun z i wr => ∃ k n : Nat, i = .int .i64 k ∧ z = .int .i64 (n : Nat) ∧ k ≤ len ∧ sizF n (l.drop k) = R ∧ ∃ d, wr = w.drewN d) (fun _ i _ => len - (intOf i).toNat)
    case atStart => exact ⟨0, 0, rfl, rfl, Nat.zero_le _, by rw [List.drop_zero, HR.out], 0, rfl⟩
    case round =>
      obtain ⟨k, n, rfl, rfl, hk, h1, hdr⟩ := hrel
      have HIR : Hid (Items S wr (.slice A len cap) l) := by
        obtain ⟨dr, rfl⟩ := hdr
        exact Items.keep (W := w) (W' := w.drewN dr) (fun _ _ => rfl) (fun _ h => h) HI.out
      have HDR := Lib.hid hdr
      clear hdr
      have H1 := Lib.hid h1
      have hn : n ≤ R := by have := sizF_ge n (l.drop k); omega
      clear h1
      by_cases hlt : k < len
      · by_cases hbig : n ≤ 65536
        · obtain ⟨x, hx⟩ : ∃ x, l[k]? = some x := ⟨_, List.getElem?_eq_getElem (by rw [HL.out]; exact hlt)⟩
          obtain ⟨bk, off, rfl, hbk, hcells⟩ := HIR.out.at (by omega)
          obtain ⟨u, ⟨c0, c1, c2, c3⟩, hkid⟩ := hcells k x hx
          obtain ⟨A', cap', rfl, hcap'⟩ := hkid.form
          obtain ⟨hk1, hk2, hn1, hn2, hs1, hl1⟩ := sized_of (sizedL_get hx HS.out)
          have h1 := H1.out
          rw [drop_get hx, sizF_cons, if_pos hbig, siz_eq] at h1
          have hsub : strsL x.kids ≤ strsL l := by
            have : ∀ (l : List Item) (k : Nat), l[k]? = some x → strsL x.kids ≤ strsL l := by
              intro l
              induction l with
              | nil => intro k h; simp at h
              | cons y r ih =>
                intro k h
                rw [strsL]
                cases k with
                | zero => simp at h; subst h; cases y; rw [Item.strs]; simp only [Item.kids]; omega
                | succ k => have := ih k (by simpa using h); omega
            exact this l k hx
          have cR := fun d => Calls.quiet_of (ih x.kids (by have := nodesL_kids hx; have := HM.out; omega) hl1 (by have := HST.out; omega) (sized_kids (sizedL_get hx HS.out)) (.slice A' x.kids.length cap') S (wr.drewN d) (Items.keep (W := wr) (W' := wr.drewN d) (fun _ _ => rfl) (fun _ h => h) hkid))
          have hn2 := sizF_ge (n + (x.s.size + sizF 0 x.kids)) (l.drop (k + 1))
          obtain ⟨sl, hsl⟩ : ∃ sl, x.s.size = sl := ⟨_, rfl⟩
          obtain ⟨kl, hkl⟩ : ∃ kl, x.kids.length = kl := ⟨_, rfl⟩
          obtain ⟨sk, hsk⟩ : ∃ sk, sizF 0 x.kids = sk := ⟨_, rfl⟩
          rw [hsk] at cR hn2 h1
          rw [hsl] at hn2 h1
          rw [hkl] at cR c3 hl1
          have hbound : n + (sl + sk) ≤ 4611686018427387904 := by omega
          have hw1 : IntKind.i64.wrap ((n : Int) + (sl : Int)) = (n : Int) + (sl : Int) := IntWalk.i64_in _ (by omega)
          have hw2 : IntKind.i64.wrap ((n : Int) + (sl : Int) + (sk : Int)) = (n : Int) + (sl : Int) + (sk : Int) := IntWalk.i64_in _ (by omega)
          have hbI : (n : Int) ≤ 65536 := by omega
          have CR := Lib.hid cR
          have HN := Lib.hid h1
          have HSL := Lib.hid hsl
          clear hcells hx hkid cR h1 hsub hsk hkl hn2
          go_wp2_with fail
          go_quiet ((exact CR.out _))
          clear hw1 hw2 hsl c0 c1 c2 c3
          go_wp2_with fail
          go_roundw
          case rel => exact ⟨k + 1, n + (sl + sk), by go_num, by congr 1; omega, by omega, HN.out, by obtain ⟨dr, h⟩ := HDR.out; exact ⟨_, by rw [h, World.drewN_drewN]⟩⟩
          case measure => simp [intOf]; omega
        · have hbI : ¬ (n : Int) ≤ 65536 := by omega
          go_wp2_with fail
          go_ret
          have := H1.out
          rw [sizF_big _ _ (by omega)] at this
          exact ⟨ret_nat (by rw [this]), HDR.out⟩
      · obtain rfl : k = len := by omega
        have hd : l.drop k = [] := List.drop_of_length_le (by rw [HL.out]; exact Nat.le_refl _)
        have HD := Lib.hid hd
        clear hd
        go_wp2_with fail
        all_goals
          go_ret
          have := H1.out
          rw [HD.out, sizF_nil] at this
          exact ⟨ret_nat (by rw [this]), HDR.out⟩

end Go.Proofs.Ytffehnojcajhiaa.Wire
