/-
  The document's own bytes of items.
-/
import Derived.Test.YtdikmlnpclklnaaGreatDoorWireAppend
import Derived.Deep.RegionWith
import Derived.Deep.RegionLaw
import Derived.Deep.DeepCutAuto
import Derived.IntWalk
namespace Go.Proofs.YtdikmlnpclklnaaGreatDoor.Wire
open Go Go.RowKit Go.Proofs.YtdikmlnpclklnaaGreatDoor.Law

/-- What stands while an item's bytes are put behind: the bytes so far, the item's own box; the digits and the list's bytes, once they are there. -/
def RS (w : World) (base bx nn : Nat) (x : Item) (u : Value) (d k : Option Value) (v : Value) (ys : List Nat) (W : World) : Prop :=
  OwnB W base 5 v ys ∧ Boxed4 W bx x u ∧ Apt base w W ∧ base ≤ W.heap.size ∧ (∀ dv, d = some dv → Bytes W.heap.size W dv (num nn)) ∧ (∀ kv, k = some kv → Bytes W.heap.size W kv (bytesL x.kids) ∧ (0 < (bytesL x.kids).length → kv.ownBlock ≠ v.ownBlock))

section
variable {w W W' : World} {base bx nn : Nat} {x : Item} {u v : Value} {d k : Option Value} {ys : List Nat}
theorem RS.below (h : RS w base bx nn x u d k v ys W) (hB : Below W.heap.size W W') : RS w base bx nn x u d k v ys W' := by
  obtain ⟨h1, h2, h3, h4, h5, h6⟩ := h
  exact ⟨h1.below hB, (hB.block bx (lt_of_some h2)).trans h2, h3.then_below hB h4, Nat.le_trans h4 hB.size, fun dv e => (h5 dv e).on hB, fun kv e => ⟨(h6 kv e).1.on hB, (h6 kv e).2⟩⟩
theorem RS.drew (h : RS w base bx nn x u d k v ys W) : RS w base bx nn x u d k v ys W.drew := h.below (Below.refl _ _).drew
theorem RS.cells (h : RS w base bx nn x u d k v ys W) : W.cell? ⟨bx, 0, none⟩ = some (.int .i64 x.kind) ∧ W.cell? ⟨bx, 1, none⟩ = some (.int .i64 x.n) ∧ W.cell? ⟨bx, 2, none⟩ = some (.string x.s) ∧ W.cell? ⟨bx, 3, none⟩ = some u := h.2.1.cells
theorem bytes_grown {n : Nat} {sv : Value} {bs : List Nat} {row : Option Nat} (h : Bytes W.heap.size W sv bs) (hg : W.grownBy W' row) (hne : 0 < bs.length → sv.ownBlock ≠ row) (hn : W'.heap.size = n) : Bytes n W' sv bs := by
  subst hn
  obtain ⟨A, cap, rfl, h1, h2, h3, h4⟩ := h
  refine ⟨A, cap, rfl, h1, h2, h3, fun hp => ?_⟩
  obtain ⟨b, off, rfl, hb, hc⟩ := h4 hp
  refine ⟨b, off, rfl, Nat.lt_of_lt_of_le hb hg.size, fun j hj => ?_⟩
  rw [← hc j hj]
  exact World.cell?_of_block (a := ⟨b, off + j, none⟩) (hg.block b hb (hne hp))
theorem RS.append (h : RS w base bx nn x u d k v ys W) {v1 : Value} {zs : List Nat} (O1 : OwnB W' base 5 v1 (ys ++ zs)) (G1 : W.grownBy W' v.ownBlock) (hor : v1.ownBlock = v.ownBlock ∨ v1.ownBlock = some W.heap.size) : RS w base bx nn x u none k v1 (ys ++ zs) W' := by
  obtain ⟨h1, h2, h3, h4, h5, h6⟩ := h
  have hA := (Apt.refl base W).grown G1 h1 (Nat.le_refl _) h4
  refine ⟨O1, h2.apt hA, h3.trans hA, Nat.le_trans h4 hA.size, fun dv e => by (cases e), fun kv e => ⟨bytes_grown (h6 kv e).1 G1 (h6 kv e).2 rfl, fun hp => ?_⟩⟩
  rcases hor with h7 | h7
  · rw [h7]; exact (h6 kv e).2 hp
  · rw [h7]
    obtain ⟨A, cap, rfl, _, _, _, h8⟩ := (h6 kv e).1
    obtain ⟨b, off, rfl, hb, _⟩ := h8 hp
    intro e2
    simp only [Value.ownBlock, Option.some.injEq] at e2
    omega
theorem RS.digits (h : RS w base bx nn x u none k v ys W) {dv : Value} (hO : OwnB W' W.heap.size 5 dv (num nn)) (hB : Below W.heap.size W W') : RS w base bx nn x u (some dv) k v ys W' := by
  obtain ⟨h1, h2, h3, h4, h5, h6⟩ := h.below hB
  exact ⟨h1, h2, h3, h4, fun e he => (by cases he; exact hO.bytes), h6⟩
theorem RS.kids (h : RS w base bx nn x u d none v ys W) {kv : Value} (hO : OwnB W' W.heap.size 5 kv (bytesL x.kids)) (hB : Below W.heap.size W W') : RS w base bx nn x u d (some kv) v ys W' := by
  have hl := h.1.1.lt
  obtain ⟨h1, h2, h3, h4, h5, h6⟩ := h.below hB
  refine ⟨h1, h2, h3, h4, h5, fun e he => ?_⟩
  cases he
  refine ⟨hO.bytes, fun hp e2 => ?_⟩
  obtain ⟨g, cap, rfl, hg, _⟩ := hO.form hp
  have := hl g e2.symm
  omega
end

/-- The four cells of a box. -/
def C4 (W : World) (bx : Nat) (x : Item) (u : Value) : Prop := W.cell? ⟨bx, 0, none⟩ = some (.int .i64 x.kind) ∧ W.cell? ⟨bx, 1, none⟩ = some (.int .i64 x.n) ∧ W.cell? ⟨bx, 2, none⟩ = some (.string x.s) ∧ W.cell? ⟨bx, 3, none⟩ = some u

set_option maxRecDepth 100000 in
set_option maxHeartbeats 8000000 in
theorem refbytes_calls : ∀ (m : Nat) (l : List Item), nodesL l < m → sizedL l → fineL l → (bytesL l).length ≤ 140737488355000 → ∀ (sv : Value) (base : Nat) (w : World), Old base w sv l → base ≤ w.heap.size →
    Calls Tryz.prog 114 #[sv] w (Owned base w (bytesL l)) := by
  intro m
  induction m with
  | zero => exact fun _ h => absurd h (Nat.not_lt_zero _)
  | succ m ih =>
    intro l hm hsz hfine hroom sv base w hI hb
    obtain ⟨i0, hi, hz0, hz1, hz2⟩ := info_parts info_u8w
    obtain ⟨A, cap, rfl, hcap⟩ := hI.form
    have hlb := length_le_bytes l
    obtain ⟨len, hlen⟩ : ∃ len, l.length = len := ⟨_, rfl⟩
    have hlong : len ≤ 140737488355000 := by omega
    clear hlb
    rw [hlen] at hI ⊢
    have HI := Lib.hid hI
    have HL := Lib.hid hlen
    have HM := Lib.hid hm
    have HS := Lib.hid hsz
    have HFN := Lib.hid hfine
    have hB := Apt.refl base w
    clear hI hlen hm hsz hfine
    go_enter Tryz.func114, Tryz.ntmps114
    go_wp2_with fail
    go_loopw [3, 4] (fun u i wr => ∃ k : Nat, i = .int .i64 k ∧ k ≤ len ∧ OwnB wr base 5 u (bytesL (l.take k)) ∧ Apt base w wr) (fun _ i _ => len - (intOf i).toNat)
    case atStart => exact ⟨0, rfl, Nat.zero_le _, ⟨by simpa [vals, bytesL] using World.ownsRow_nil w base 5 1, by simp [bytesL]⟩, hB⟩
    case round =>
      obtain ⟨k, rfl, hk, h1, h2⟩ := hrel
      have H1 := Lib.hid h1
      clear h1
      have hs := Nat.le_trans hb h2.size
      by_cases hlt : k < len
      · obtain ⟨x, hx⟩ : ∃ x, l[k]? = some x := ⟨_, List.getElem?_eq_getElem (by rw [HL.out]; exact hlt)⟩
        obtain ⟨bk, off, rfl, hbk, hcells⟩ := (HI.out.low h2.low).at (by omega)
        obtain ⟨u, ⟨c0, c1, c2, c3⟩, hkid⟩ := hcells k x hx
        obtain ⟨A', cap', rfl, hcap'⟩ := hkid.form
        obtain ⟨hk1, hk2, hn1, hn2, hs1, hl1⟩ := sized_of (sizedL_get hx HS.out)
        have hno := no_lt (sizedL_get hx HS.out)
        have hform := fine_form (fineL_get hx HFN.out)
        have hsum : bytesL (l.take (k + 1)) = bytesL (l.take k) ++ ([(x.kind % 256).toNat] ++ (num x.no ++ (sb x.s ++ bytesL x.kids))) := by
          rw [bytesL_take_succ hx, bytes_eq]; simp
        have hfit : (bytesL (l.take (k + 1))).length ≤ 140737488355000 := by have := bytesL_take_le l (k + 1); omega
        rw [hsum] at hfit
        simp only [List.length_append, List.length_cons, List.length_nil, sb_length] at hfit
        obtain ⟨kl, hkl⟩ : ∃ kl, x.kids.length = kl := ⟨_, rfl⟩
        rw [hkl] at hkid hcap' hl1 c3
        have HSUM := Lib.hid hsum
        have HX := Lib.hid hx
        have HK := Lib.hid hkid
        have HFIT := Lib.hid hfit
        have HKL := Lib.hid hkl
        have HFORM := Lib.hid hform
        clear hcells hx hkid hsum hfit hkl hform
        have hbox := Boxed4.new wr x (.slice A' kl cap')
        have HBOX := Lib.hid hbox
        clear hbox
        go_wp2_with (at_builtin; refine wpList_append_bytes rfl _ _ _ rfl Tryz.underlying29 hi hz0 hz1 hz2 rfl rfl rfl ((H1.out.alloc _).alloc _) (litAt _ _ _ [(x.kind % 256).toNat] 1 _ (by simp) (by rfl) (by decide) ?lit (by simp; omega)) (by have := HFIT.out; simp; omega) (by simp; omega) ?next)
        case lit =>
          simp only [vals, List.map_cons, List.map_nil]
          rw [show x.kind % 256 = (((x.kind % 256).toNat : Nat) : Int) by omega]; rfl
        case next =>
          intro v1 w1 O1 G1
          have A0 : Apt base wr (wr.alloc (.cells #[.int .i64 x.kind, .int .i64 x.n, .string x.s, .slice A' kl cap'] 145)) := (Apt.refl _ _).alloc hs _
          have A1 := (((Apt.refl base _).alloc (by simp; omega) _).grown G1 ((H1.out.alloc _).alloc _) (Nat.le_refl _) (by simp; omega))
          have hbox := HBOX.out.apt A1
          have AA := A0.trans A1
          have hs1' := Nat.le_trans hs AA.size
          have hRS : RS wr base wr.heap.size x.no x (.slice A' kl cap') none none v1 (bytesL (l.take k) ++ [(x.kind % 256).toNat]) w1 := ⟨O1, hbox, AA, hs1', fun _ e => by (cases e), fun _ e => by (cases e)⟩
          obtain ⟨d0, d1, d2, d3⟩ := hbox.cells
          have HRS := Lib.hid hRS
          clear G1 H1 HBOX hbox A0 A1 O1 AA hRS c0 c1 c2 c3
          have hgoal : ∀ v W, OwnB W base 5 v ((bytesL (l.take k) ++ [(x.kind % 256).toNat]) ++ (num x.no ++ (sb x.s ++ bytesL x.kids))) → Apt base wr W → OwnB W base 5 v (bytesL (l.take (k + 1))) ∧ Apt base w W := fun v W h1 h3 => ⟨by rw [HSUM.out, ← List.append_assoc]; exact h1, h2.trans h3⟩
          have HGOAL := Lib.hid hgoal
          clear hgoal
          have hend : ∀ (v : Value) (W : World), OwnB W base 5 v (bytesL (l.take (k + 1))) ∧ Apt base w W → ∃ k' : Nat, Value.int .i64 ((k : Int) + 1) = .int .i64 k' ∧ k' ≤ len ∧ OwnB W base 5 v (bytesL (l.take k')) ∧ Apt base w W := fun v W h => ⟨k + 1, by go_num, by omega, h.1, h.2⟩
          have HEND := Lib.hid hend
          clear hend
          obtain ⟨kb, hkb⟩ : ∃ kb, (x.kind % 256).toNat = kb := ⟨_, rfl⟩
          rw [hkb] at HRS HGOAL
          clear hkb
          by_cases hk0 : x.kind = 0
          · have hf := HFORM.out
            have hss : x.s.size = 0 ∧ x.kids.length = 0 := by rw [form_eq, hk0] at hf; simpa [formB] using hf
            have hsb : sb x.s = [] := List.eq_nil_of_length_eq_zero (by rw [sb_length]; exact hss.1)
            have hkk : bytesL x.kids = [] := by rw [List.eq_nil_of_length_eq_zero hss.2]; rfl
            have hnn : x.no = zig x.n := by unfold Item.no; rw [if_neg (by omega), if_neg (by omega)]
            have hz := zig_lt hn1 hn2
            have cD : ∀ z : Int, z = (zig x.n : Nat) → Calls Tryz.prog 141 #[.int .u64 z] w1 (Owned w1.heap.size w1 (num (zig x.n))) := fun z e => by rw [e]; exact refdigits_calls _ hz w1
            rw [hsb, hkk, hnn] at HGOAL
            rw [hnn] at HRS
            have hzn : (((zig x.n : Nat) : Int) = 2 * x.n ∧ 0 ≤ x.n) ∨ (((zig x.n : Nat) : Int) = 2 * -(x.n + 1) + 1 ∧ x.n < 0) := by unfold zig; split <;> omega
            obtain ⟨zz, hzz⟩ : ∃ zz, zig x.n = zz := ⟨_, rfl⟩
            rw [hzz] at cD HGOAL HRS hzn hz
            have hfit := HFIT.out
            rw [hnn, hzz] at hfit
            have HF2 := Lib.hid hfit
            have CD := Lib.hid cD
            clear hf hss hsb hkk hnn cD hfit hzz
            rcases hzn with ⟨hzn, hpos⟩ | ⟨hzn, hneg⟩
            · have HZN := Lib.hid hzn
              clear hzn
              go_wp2_with fail
              refine (CD.out _ (by rw [HZN.out])).mono ?_
              rintro e w2 ⟨dv, rfl, O2, A2⟩
              have hR2 := HRS.out.digits O2 A2.low
              have HR2 := Lib.hid hR2
              clear O2 A2 hR2 d0 d1 d2 d3
              go_wp2_with (at_builtin; refine wpList_append_bytes rfl _ _ _ rfl Tryz.underlying29 hi hz0 hz1 hz2 rfl rfl rfl HR2.out.1 (HR2.out.2.2.2.2.1 _ rfl) (by have := HF2.out; simp; omega) HR2.out.2.2.2.1 ?next)
              case next =>
                intro v3 w3 O3 G3
                have hfin := HGOAL.out v3 w3 (by simpa using O3) (HR2.out.2.2.1.grown G3 HR2.out.1 (Nat.le_refl _) HR2.out.2.2.2.1)
                have hfin2 := HEND.out v3 w3 hfin
                have HFIN := Lib.hid hfin2
                clear O3 G3 hfin hfin2 HR2
                go_wp2_with fail
                go_roundw
                case rel => exact HFIN.out
                case measure => simp [intOf]; omega
            · have HZN := Lib.hid hzn
              clear hzn
              go_wp2_with fail
              refine (CD.out _ (by rw [HZN.out])).mono ?_
              rintro e w2 ⟨dv, rfl, O2, A2⟩
              have hR2 := HRS.out.digits O2 A2.low
              have HR2 := Lib.hid hR2
              clear O2 A2 hR2 d0 d1 d2 d3
              go_wp2_with (at_builtin; refine wpList_append_bytes rfl _ _ _ rfl Tryz.underlying29 hi hz0 hz1 hz2 rfl rfl rfl HR2.out.1 (HR2.out.2.2.2.2.1 _ rfl) (by have := HF2.out; simp; omega) HR2.out.2.2.2.1 ?next)
              case next =>
                intro v3 w3 O3 G3
                have hfin := HGOAL.out v3 w3 (by simpa using O3) (HR2.out.2.2.1.grown G3 HR2.out.1 (Nat.le_refl _) HR2.out.2.2.2.1)
                have hfin2 := HEND.out v3 w3 hfin
                have HFIN := Lib.hid hfin2
                clear O3 G3 hfin hfin2 HR2
                go_wp2_with fail
                go_roundw
                case rel => exact HFIN.out
                case measure => simp [intOf]; omega
          · by_cases hk1 : x.kind = 1
            · have hf := HFORM.out
              have hss : x.n = 0 ∧ x.kids.length = 0 := by rw [form_eq, hk1] at hf; simpa [formB] using hf
              have hkk : bytesL x.kids = [] := by rw [List.eq_nil_of_length_eq_zero hss.2]; rfl
              have hnn : x.no = x.s.size := by unfold Item.no; rw [if_pos hk1]
              obtain ⟨sl, hsl⟩ : ∃ sl, x.s.size = sl := ⟨_, rfl⟩
              rw [hkk, hnn, hsl] at HGOAL
              rw [hnn, hsl] at HRS
              rw [hsl] at hs1
              have hfit := HFIT.out
              rw [hnn, hsl] at hfit
              have cD : ∀ (z : Int) W, z = (sl : Nat) → RS wr base wr.heap.size sl x (.slice A' kl cap') none none v1 (bytesL (l.take k) ++ [kb]) W → Calls Tryz.prog 141 #[.int .u64 z] W fun e W' => ∃ dv, e = .returned dv ∧ Hid (RS wr base wr.heap.size sl x (.slice A' kl cap') (some dv) none v1 (bytesL (l.take k) ++ [kb]) W') ∧ W'.cell? ⟨wr.heap.size, 2, none⟩ = some (.string x.s) := fun z W e hW => by
                rw [e]
                refine (refdigits_calls sl (by omega) W).mono ?_
                rintro e w2 ⟨dv, rfl, O2, A2⟩
                have h := hW.digits O2 A2.low
                exact ⟨dv, rfl, Lib.hid h, h.cells.2.2.1⟩
              have hwu : IntKind.u64.wrap (sl : Int) = (sl : Nat) := by rw [IntKind.wrap_u64]; omega
              have HSL := Lib.hid hsl
              have HF2 := Lib.hid hfit
              have CD := Lib.hid cD
              have HKIND := Lib.hid hk1
              clear hf hss hkk hnn cD hfit
              obtain ⟨bx, hbx⟩ : ∃ bx, wr.heap.size = bx := ⟨_, rfl⟩
              rw [hbx] at HRS CD d0 d1 d2 d3 ⊢
              go_wp2_with fail
              go_region_law (first
                | (go_simp; go_at_call 141; ((with_reducible refine (CD.out _ _ rfl ?_).mono ?_); (first | exact HRS.out | exact RS.drew HRS.out)); rintro e w' ⟨dv, rfl, hS1, d2'⟩)
                | (refine step_append_bytes_at rfl _ _ _ rfl Tryz.underlying29 hi hz0 hz1 hz2 rfl rfl rfl (Hid.out hS1).1 ((Hid.out hS1).2.2.2.2.1 _ rfl) (by have := HF2.out; simp; omega) (Hid.out hS1).2.2.2.1 ?_; intro v3 w3 O3 G3 hor; have hS2 := Lib.hid (RS.append (Hid.out hS1) O3 G3 hor); have d2'' := (Hid.out hS2).cells.2.2.1; clear O3 G3 hor)
                | (refine step_append_str rfl _ _ _ _ rfl Tryz.underlying29 Tryz.underlying9 hi hz0 hz1 hz2 rfl rfl (Hid.out hS2).1 (by have := HF2.out; rw [HSL.out]; simp; omega) (Hid.out hS2).2.2.2.1 ?_; intro v4 w4 O4 G4; have hfin := Lib.hid (HEND.out v4 w4 (HGOAL.out v4 w4 (by simpa using O4) ((Hid.out hS2).2.2.1.grown G4 (Hid.out hS2).1 (Nat.le_refl _) (Hid.out hS2).2.2.2.1))); clear O4 G4))
              all_goals
                clear hS1 hS2 d0 d1 d2 d3 hwu
                go_wp2_with fail
                go_roundw
                case rel => exact hfin.out
                case measure => simp [intOf]; omega
            · have hf := HFORM.out
              have hk2' : x.kind = 2 := by
                rw [form_eq] at hf; unfold formB at hf; rw [if_neg hk0, if_neg hk1] at hf
                by_cases h2 : x.kind = 2
                · exact h2
                · rw [if_neg h2] at hf; cases hf
              have hss : x.n = 0 ∧ x.s.size = 0 := by rw [form_eq, hk2'] at hf; simpa [formB] using hf
              have hsb : sb x.s = [] := List.eq_nil_of_length_eq_zero (by rw [sb_length]; exact hss.2)
              have hnn : x.no = kl := by unfold Item.no; rw [if_neg hk1, if_pos hk2', HKL.out]
              rw [hsb, hnn] at HGOAL
              rw [hnn] at HRS
              have hfit := HFIT.out
              rw [hnn] at hfit
              obtain ⟨ys, hys⟩ : ∃ ys, bytesL (l.take k) ++ [kb] = ys := ⟨_, rfl⟩
              have hyl : (bytesL (l.take k)).length + 1 = ys.length := by rw [← hys]; simp
              rw [hys] at HRS HGOAL
              have cD : ∀ (z : Int) (d : Option Value) W, z = (kl : Nat) → RS wr base wr.heap.size kl x (.slice A' kl cap') none d v1 ys W → Calls Tryz.prog 141 #[.int .u64 z] W fun e W' => ∃ dv, e = .returned dv ∧ Hid (RS wr base wr.heap.size kl x (.slice A' kl cap') (some dv) d v1 ys W') ∧ W'.cell? ⟨wr.heap.size, 3, none⟩ = some (.slice A' kl cap') := fun z d W e hW => by
                rw [e]
                refine (refdigits_calls kl (by omega) W).mono ?_
                rintro e w2 ⟨dv, rfl, O2, A2⟩
                have h := hW.digits O2 A2.low
                exact ⟨dv, rfl, Lib.hid h, h.cells.2.2.2⟩
              have cK : ∀ (d : Option Value) (v : Value) (zs : List Nat) W, RS wr base wr.heap.size kl x (.slice A' kl cap') d none v zs W → Calls Tryz.prog 114 #[.slice A' kl cap'] W fun e W' => ∃ kv, e = .returned kv ∧ Hid (RS wr base wr.heap.size kl x (.slice A' kl cap') d (some kv) v zs W') ∧ W'.cell? ⟨wr.heap.size, 3, none⟩ = some (.slice A' kl cap') := fun d v zs W hW => by
                refine (ih x.kids (by have := nodesL_kids HX.out; have := HM.out; omega) (sized_kids (sizedL_get HX.out HS.out)) (fine_kids (fineL_get HX.out HFN.out)) (by have := HFIT.out; omega) (.slice A' kl cap') W.heap.size W (Items.more hW.2.2.2.1 (HK.out.low hW.2.2.1.low)) (Nat.le_refl _)).mono ?_
                rintro e w2 ⟨kv, rfl, O2, A2⟩
                have h := hW.kids O2 A2.low
                exact ⟨kv, rfl, Lib.hid h, h.cells.2.2.2⟩
              have hwu : IntKind.u64.wrap (kl : Int) = (kl : Nat) := by rw [IntKind.wrap_u64]; omega
              have HF2 := Lib.hid hfit
              have CD := Lib.hid cD
              have CK := Lib.hid cK
              have HYL := Lib.hid hyl
              have HK2 := Lib.hid hk2'
              clear hf hss hsb hnn cD cK hfit hys hyl
              obtain ⟨bx, hbx⟩ : ∃ bx, wr.heap.size = bx := ⟨_, rfl⟩
              rw [hbx] at HRS CD CK d0 d1 d2 d3 ⊢
              clear ih HX HK HSUM HFIT HFORM HFN HS HM hbx HKL HL HI hB
              go_wp2_with fail
              go_region_law (first
                | (go_simp; go_at_call 141; (first | ((with_reducible refine (CD.out _ none _ rfl ?_).mono ?_); (first | exact HRS.out | exact RS.drew HRS.out)) | ((with_reducible refine (CD.out _ (some kv) _ rfl ?_).mono ?_); exact Hid.out hSK)); rintro e w' ⟨dv, rfl, hS1, d3'⟩)
                | (go_simp; go_at_call 114; (first | ((with_reducible refine (CK.out none v1 ys _ ?_).mono ?_); (first | exact HRS.out | exact RS.drew HRS.out)) | ((with_reducible refine (CK.out (some dv) v1 ys _ ?_).mono ?_); exact Hid.out hS1) | ((with_reducible refine (CK.out none v3 (ys ++ num kl) _ ?_).mono ?_); exact Hid.out hS2)); rintro e w' ⟨kv, rfl, hSK, d3k⟩)
                | (refine step_append_bytes_at rfl _ _ _ rfl Tryz.underlying29 hi hz0 hz1 hz2 rfl rfl rfl (Hid.out (by assumption : Hid (RS wr base bx kl x _ (some _) _ _ _ _))).1 ((Hid.out (by assumption : Hid (RS wr base bx kl x _ (some _) _ _ _ _))).2.2.2.2.1 _ rfl) (by have := HF2.out; have := HYL.out; omega) (Hid.out (by assumption : Hid (RS wr base bx kl x _ (some _) _ _ _ _))).2.2.2.1 ?_; intro v3 w3 O3 G3 hor; have hS2 := Lib.hid (RS.append (Hid.out (by assumption : Hid (RS wr base bx kl x (.slice A' kl cap') (some _) _ v1 _ _))) O3 G3 hor); have d3'' := (Hid.out hS2).cells.2.2.2; clear O3 G3 hor)
                | (refine step_append_bytes_at rfl _ _ _ rfl Tryz.underlying29 hi hz0 hz1 hz2 rfl rfl rfl (Hid.out (by assumption : Hid (RS wr base bx kl x _ none (some _) _ _ _))).1 ((Hid.out (by assumption : Hid (RS wr base bx kl x _ none (some _) _ _ _))).2.2.2.2.2 _ rfl).1 (by have := HF2.out; have := HYL.out; rw [List.length_append]; omega) (Hid.out (by assumption : Hid (RS wr base bx kl x _ none (some _) _ _ _))).2.2.2.1 ?_; intro v4 w4 O4 G4 hor4; have hlast := (Hid.out (by assumption : Hid (RS wr base bx kl x (.slice A' kl cap') none (some _) _ (ys ++ num kl) _))); have hfin := Lib.hid (HEND.out v4 w4 (HGOAL.out v4 w4 (by simpa using O4) (hlast.2.2.1.grown G4 hlast.1 (Nat.le_refl _) hlast.2.2.2.1))); clear O4 G4 hor4 hlast))
              all_goals
                clear d0 d1 d2 d3 hwu HRS CD CK
                go_wp2_with fail
                go_roundw
                case rel => exact hfin.out
                case measure => simp [intOf]; omega
      · obtain rfl : k = len := by omega
        go_wp2_with fail
        go_ret
        refine ⟨u3, rfl, ?_, h2⟩
        have := H1.out
        rw [List.take_of_length_le (by rw [HL.out]; exact Nat.le_refl _)] at this
        exact this

end Go.Proofs.YtdikmlnpclklnaaGreatDoor.Wire
