/-
  Put together out of texts of one chain: what they hold stands ahead of each.
-/
import Derived.Test.YtnhkpemajknfnaaGreatDoorBuf
import Derived.Test.YtnhkpemajknfnaaGreatDoorCells
import Derived.Test.YtnhkpemajknfnaaGreatDoorMapP
import Derived.Deep.RegionWith
import Derived.IntWalk
import Derived.Lib.SliceRun
import Derived.Lib.ConvBytes
import Derived.Lib.Strings
import Derived.Deep.RegionLaw
/-
  Contracts of disk's small functions: right rooms and names, copies of bytes.
-/
namespace Go.Proofs.YtnhkpemajknfnaaGreatDoor.Disk
open Go Go.RowKit Go.Proofs.YtnhkpemajknfnaaGreatDoor.Law

theorem info_u8d : (Tryz.prog.info? 5).map (fun i => (i.zero, i.size, i.bytes)) = some (some (.int .u8 0), 1, 1) := by kernel_rfl

set_option maxRecDepth 100000 in
theorem rightRoom_calls (n : Int) (w : World) : Calls Tryz.prog 26 #[.int .i64 n] w fun e W => e = .returned (.bool (decide (0 ≤ n ∧ n ≤ 1073741824))) ∧ w = W := by
  by_cases h0 : 0 ≤ n
  · by_cases h1 : n ≤ 1073741824
    · have hr : decide (0 ≤ n ∧ n ≤ 1073741824) = true := by simp [h0, h1]
      rw [hr]
      clear hr
      go_enter Tryz.func26, Tryz.ntmps26
      go_wp2
      go_ret
      exact ⟨rfl, rfl⟩
    · have hr : decide (0 ≤ n ∧ n ≤ 1073741824) = false := by simp [h1]
      rw [hr]
      clear hr
      go_enter Tryz.func26, Tryz.ntmps26
      go_wp2
      go_ret
      exact ⟨rfl, rfl⟩
  · have hr : decide (0 ≤ n ∧ n ≤ 1073741824) = false := by simp [h0]
    rw [hr]
    clear hr
    go_enter Tryz.func26, Tryz.ntmps26
    go_wp2
    go_ret
    exact ⟨rfl, rfl⟩

/-- New bytes of the call's own. -/
def Cloned (w : World) (bs : List Nat) (e : Ending) (W : World) : Prop := ∃ v, e = .returned v ∧ OwnB W w.heap.size 5 v bs ∧ Below w.heap.size w W

set_option maxRecDepth 100000 in
set_option maxHeartbeats 1000000 in
theorem clone_calls (v : Value) (bs : List Nat) (hlen : bs.length ≤ 140737488351232) (w : World) (hI : Bytes w.heap.size w v bs) :
    Calls Tryz.prog 57 #[v] w (Cloned w bs) := by
  obtain ⟨i0, hi, hz0, hz1, hz2⟩ := info_parts info_u8d
  obtain ⟨A, cap, rfl⟩ := hI.form
  cases A with
  | none =>
    have h0 : bs = [] := by
      obtain ⟨A', cap', e, _, hA, _, hc⟩ := hI
      simp only [Value.slice.injEq] at e
      obtain ⟨rfl, _, rfl⟩ := e
      rcases Nat.eq_zero_or_pos bs.length with h | h
      · exact List.eq_nil_of_length_eq_zero h
      · obtain ⟨b, off, h, _⟩ := hc h; cases h
    have hcap : cap = 0 := by
      obtain ⟨A', cap', e, _, hA, _, hc⟩ := hI
      simp only [Value.slice.injEq] at e
      obtain ⟨rfl, _, rfl⟩ := e
      exact hA rfl
    subst h0 hcap
    clear hI
    have q22 : ∀ (w : World) (a : Option Addr) (n c n' c' : Nat), (binOp .eql 29 (.slice a n c) (.slice none n' c')).run Tryz.prog w = .ok (.bool a.isNone) w := fun w a n c n' c' => Lib.run_eql_slice_nil w _ _ a n c n' c' Tryz.underlying29
    go_enter Tryz.func57, Tryz.ntmps57
    go_wp2
    go_ret
    exact ⟨_, rfl, ⟨World.ownsRow_nil w _ _ 1, by simp⟩, Below.refl _ _⟩
  | some a =>
    have hB0 : Below w.heap.size w (w.alloc (.cells #[] 5)) := (Below.refl _ _).alloc (Nat.le_refl _) _
    have hO0 : OwnB (w.alloc (.cells #[] 5)) w.heap.size 5 (.slice (some ⟨w.heap.size, 0, none⟩) 0 0) [] :=
      ⟨⟨rfl, .inr ⟨w.heap.size, 0, #[], rfl, Nat.le_refl _, heap_alloc_new w _, Nat.le_refl _, by simp [maxLen], rfl, rfl⟩⟩, by simp⟩
    obtain ⟨v', w', R, O, G, _⟩ := run_append_bytes (P := Tryz.prog) (w.alloc (.cells #[] 5)) 29 Tryz.underlying29 hi hz0 hz1 hz2 rfl hO0 (hI.on hB0) (by simp; omega) (by simp)
    rw [List.nil_append] at O
    have hB1 : Below w.heap.size w w' := below_append hB0 G hO0 (Nat.le_refl _) (by simp)
    have HR := Lib.hid R
    have HO := Lib.hid O
    obtain ⟨A', c', rfl⟩ := O.bytes.form
    clear hI R O G hO0 hB0
    have q22 : ∀ (w : World) (a : Option Addr) (n c n' c' : Nat), (binOp .eql 29 (.slice a n c) (.slice none n' c')).run Tryz.prog w = .ok (.bool a.isNone) w := fun w a n c n' c' => Lib.run_eql_slice_nil w _ _ a n c n' c' Tryz.underlying29
    go_enter Tryz.func57, Tryz.ntmps57
    go_wp2_with (at_builtin; refine wpList_append_ran rfl _ _ _ rfl rfl rfl HR.out ?_)
    go_ret
    exact ⟨_, rfl, HO.out, hB1⟩

/-- A file's content as a value. -/
abbrev contentV (there : Bool) (v : Value) : Value := .agg #[.bool there, v]

/-- The cells of a block of two. -/
def Two2 (W : World) (b : Nat) (x0 x1 : Value) : Prop := W.cell? ⟨b, 0, none⟩ = some x0 ∧ W.cell? ⟨b, 1, none⟩ = some x1 ∧ W.frozen? ⟨b, 0, none⟩ = false ∧ W.frozen? ⟨b, 1, none⟩ = false
theorem two2 {W : World} {b : Nat} {x0 x1 : Value} {t : TypeId} (h : W.heap[b]? = some (Obj.cells #[x0, x1] t)) : Two2 W b x0 x1 := by
  refine ⟨?_, ?_, ?_, ?_⟩ <;> simp [World.cell?, World.frozen?, h]

/-- What Clone leaves, two new blocks ahead of it. -/
def Cloned2 (w : World) (bs : List Nat) (len : Nat) (x0 x1 y0 y1 : Value) (e : Ending) (W : World) : Prop :=
  ∃ A c, e = .returned (.slice A len c) ∧ OwnB W (w.heap.size + 2) 5 (.slice A len c) bs ∧ Below w.heap.size w W ∧ w.heap.size + 2 ≤ W.heap.size ∧ Two2 W w.heap.size x0 x1 ∧ Two2 W (w.heap.size + 1) y0 y1
theorem cloned2 (v : Value) (bs : List Nat) (hlen : bs.length ≤ 140737488351232) (w : World) (hI : Bytes w.heap.size w v bs) (x0 x1 y0 y1 : Value) (t u : TypeId) :
    Calls Tryz.prog 57 #[v] (((w.alloc (.cells #[x0, x1] t)).alloc (.cells #[y0, y1] u)).drew) (Cloned2 w bs bs.length x0 x1 y0 y1) := by
  have hB := (((Below.refl w.heap.size w).alloc (Nat.le_refl _) (.cells #[x0, x1] t)).alloc (by simp) (.cells #[y0, y1] u)).drew
  refine (clone_calls v bs hlen _ (hI.on hB)).mono ?_
  rintro e W ⟨v', rfl, hO, hB2⟩
  obtain ⟨A, c, rfl⟩ := hO.bytes.form
  have hsz : (((w.alloc (.cells #[x0, x1] t)).alloc (.cells #[y0, y1] u)).drew).heap.size = w.heap.size + 2 := by simp
  rw [hsz] at hO hB2
  refine ⟨A, c, rfl, hO, hB.trans (hB2.mono (by omega)), by have := hB2.size; rw [hsz] at this; exact this, two2 ((hB2.block _ (by omega)).trans ((Below.heap_alloc _ _ _ (by simp)).trans (heap_alloc_new w _))), ?_⟩
  have h1 := heap_alloc_new (w.alloc (.cells #[x0, x1] t)) (.cells #[y0, y1] u)
  rw [World.size_alloc] at h1
  exact two2 ((hB2.block (w.heap.size + 1) (by omega)).trans h1)

theorem ownB_put {W : World} {base b i : Nat} {e : TypeId} {v : Value} {bs : List Nat} (h : OwnB W (base + 2) e v bs) (hb : b < base + 2) (u : Value) : OwnB (W.setCell ⟨b, i, none⟩ u) (base + 2) e v bs := by
  have hlt := h.1.lt
  refine ⟨⟨h.1.1, ?_⟩, h.2⟩
  rcases h.1.2 with h0 | ⟨g, cap, cur, rfl, h1, h2, h3⟩
  · exact .inl h0
  · exact .inr ⟨g, cap, cur, rfl, h1, (Below.heap_setCell _ _ _ _ (by show g ≠ b; omega)).trans h2, h3⟩
theorem ownB_low {W : World} {base b' : Nat} {e : TypeId} {v : Value} {bs : List Nat} (h : OwnB W base e v bs) (hb : b' ≤ base) : OwnB W b' e v bs := by
  refine ⟨⟨h.1.1, ?_⟩, h.2⟩
  rcases h.1.2 with h0 | ⟨g, cap, cur, rfl, h1, h2⟩
  · exact .inl h0
  · exact .inr ⟨g, cap, cur, rfl, by omega, h2⟩

/-- What copied leaves. -/
def Copied (w : World) (there : Bool) (bs : List Nat) (e : Ending) (W : World) : Prop := ∃ v', e = .returned (contentV there v') ∧ OwnB W w.heap.size 5 v' bs ∧ Below w.heap.size w W

set_option maxRecDepth 100000 in
set_option maxHeartbeats 2000000 in
theorem copied_calls (there : Bool) (v : Value) (bs : List Nat) (hlen : bs.length ≤ 140737488351232) (w : World) (hI : Bytes w.heap.size w v bs) :
    Calls Tryz.prog 55 #[contentV there v] w (Copied w there bs) := by
  obtain ⟨A, cap, rfl⟩ := hI.form
  obtain ⟨len, hl⟩ : ∃ len, bs.length = len := ⟨_, rfl⟩
  have cC := cloned2 (.slice A bs.length cap) bs hlen w hI (.bool there) (.slice A len cap) (.bool false) (.slice none 0 0) 65 65
  rw [hl] at cC ⊢
  have CC := Lib.hid cC
  clear hI cC hl
  go_enter Tryz.func55, Tryz.ntmps55
  go_wp2_with fail
  go_region_with (go_at_call 57; ((with_reducible refine CC.out.mono ?_); rintro e W2 ⟨A2, c2, rfl, hO2, hB2, hs2, ⟨q0, q1, q2, q3⟩, ⟨r0, r1, r2, r3⟩⟩; have HO2 := Lib.hid hO2; have HB2 := Lib.hid hB2; clear hO2 hB2))
  all_goals
    go_wp2_with fail
    refine bodyPost_ret (v := contentV there (.slice A2 len c2)) (by simp [results, Tryz.results55, go_sem, r0, r1]) rfl ?_
    have hB3 := (HB2.out.setCell (p := ⟨w.heap.size + 1, 0, none⟩) (Nat.le_succ _) (.bool there)).setCell (p := ⟨w.heap.size + 1, 1, none⟩) (Nat.le_succ _) (.slice A2 len c2)
    exact ⟨_, rfl, ownB_low (ownB_put (ownB_put HO2.out (Nat.lt_succ_self _) _) (Nat.lt_succ_self _) _) (by omega), hB3⟩

/-- What Clone leaves, a new block ahead of it. -/
def Cloned1 (w : World) (bs : List Nat) (len : Nat) (x0 x1 : Value) (e : Ending) (W : World) : Prop :=
  ∃ A c, e = .returned (.slice A len c) ∧ OwnB W (w.heap.size + 1) 5 (.slice A len c) bs ∧ Below w.heap.size w W ∧ w.heap.size + 1 ≤ W.heap.size ∧ Two2 W w.heap.size x0 x1
theorem cloned1 (v : Value) (bs : List Nat) (hlen : bs.length ≤ 140737488351232) (w : World) (hI : Bytes w.heap.size w v bs) (x0 x1 : Value) (t : TypeId) :
    Calls Tryz.prog 57 #[v] ((w.alloc (.cells #[x0, x1] t)).drew) (Cloned1 w bs bs.length x0 x1) := by
  have hB := ((Below.refl w.heap.size w).alloc (Nat.le_refl _) (.cells #[x0, x1] t)).drew
  refine (clone_calls v bs hlen _ (hI.on hB)).mono ?_
  rintro e W ⟨v', rfl, hO, hB2⟩
  obtain ⟨A, c, rfl⟩ := hO.bytes.form
  have hsz : ((w.alloc (.cells #[x0, x1] t)).drew).heap.size = w.heap.size + 1 := by simp
  rw [hsz] at hO hB2
  exact ⟨A, c, rfl, hO, hB.trans (hB2.mono (by omega)), by have := hB2.size; rw [hsz] at this; exact this, two2 ((hB2.block _ (by omega)).trans (heap_alloc_new w _))⟩

/-- What read leaves. -/
def ReadOut (w : World) (there : Bool) (bs : List Nat) (e : Ending) (W : World) : Prop := ∃ v', e = .returned (.tuple #[v', .bool there]) ∧ OwnB W w.heap.size 5 v' bs ∧ Below w.heap.size w W

set_option maxRecDepth 100000 in
set_option maxHeartbeats 2000000 in
theorem read_calls (there : Bool) (v : Value) (bs : List Nat) (hlen : bs.length ≤ 140737488351232) (w : World) (hI : Bytes w.heap.size w v bs) :
    Calls Tryz.prog 33 #[contentV there v] w (ReadOut w there bs) := by
  obtain ⟨A, cap, rfl⟩ := hI.form
  obtain ⟨len, hl⟩ : ∃ len, bs.length = len := ⟨_, rfl⟩
  have cC := cloned1 (.slice A bs.length cap) bs hlen w hI (.bool there) (.slice A len cap) 65
  rw [hl] at cC ⊢
  have CC := Lib.hid cC
  clear hI cC hl
  go_enter Tryz.func33, Tryz.ntmps33
  go_wp2_with fail
  go_region_with (go_at_call 57; ((with_reducible refine CC.out.mono ?_); rintro e W2 ⟨A2, c2, rfl, hO2, hB2, hs2, ⟨q0, q1, q2, q3⟩⟩; have HO2 := Lib.hid hO2; have HB2 := Lib.hid hB2; clear hO2 hB2))
  all_goals
    go_wp2_with fail
    go_ret2
    exact ⟨_, rfl, ownB_low HO2.out (by omega), HB2.out⟩

end Go.Proofs.YtnhkpemajknfnaaGreatDoor.Disk

/-
  Contracts of disk's rightName and refusal.
-/
namespace Go.Proofs.YtnhkpemajknfnaaGreatDoor.Disk
open Go Go.RowKit Go.Proofs.YtnhkpemajknfnaaGreatDoor.Law

def okByte (x : Nat) : Bool := decide (97 ≤ x ∧ x ≤ 122) || decide (48 ≤ x ∧ x ≤ 57) || decide (x = 45)
/-- Is a name right? -/
def rightB (s : ByteArray) : Bool := decide (1 ≤ s.size ∧ s.size ≤ 32) && (bytesS s).all okByte

theorem bytesS_get (s : ByteArray) (k : Nat) : ((s.data.toList.getD k 0).toNat) = (bytesS s).getD k 0 := by
  unfold bytesS
  rw [List.getD, List.getD, List.getElem?_map]
  cases s.data.toList[k]? <;> rfl

theorem run_conv {P : Program} {ρ : Operand → Value} {o : Oper} {w w' : World} {src dst : TypeId} {x : Operand} {xv v : Value} (hrun : (convert src dst xv).run P w = .ok v w') (ho : o.op = .convert src dst x := by rfl) (hx : ρ x = xv := by rfl) : (execOp ρ o).run P w = .ok (.value v) w' := by
  unfold execOp
  simp only [ho, hx, Sem.run_bind, Sem.run_pure, hrun, Result.andThen_ok]

def BoolB (w : World) (b : Bool) (e : Ending) (W : World) : Prop := e = .returned (.bool b) ∧ Below w.heap.size w W

set_option maxRecDepth 100000 in
set_option maxHeartbeats 2000000 in
theorem rightName_calls (s : ByteArray) (w : World) (hs63 : s.size ≤ 9223372036854775807) : Calls Tryz.prog 53 #[.string s] w (BoolB w (rightB s)) := by
  obtain ⟨r, hr⟩ : ∃ r, rightB s = r := ⟨_, rfl⟩
  rw [hr]
  have HR := Lib.hid hr
  clear hr
  by_cases h0 : s.size = 0
  · have hd : s.data = #[] := Array.eq_empty_of_size_eq_zero h0
    have hse : s = ⟨#[]⟩ := by cases s; simp only at hd; rw [hd]
    subst hse
    have hrr : r = false := by rw [← HR.out]; rfl
    subst hrr
    clear HR hd h0
    go_enter Tryz.func53, Tryz.ntmps53
    go_wp2
    go_ret
    exact ⟨rfl, Below.refl _ _⟩
  · have hem : s.toList.isEmpty = false := by
      rw [Lib.toList_data]
      cases hq : s.data.toList with
      | nil => exact absurd (by have : s.data.toList.length = 0 := by rw [hq]; rfl
                                rwa [Array.length_toList] at this) h0
      | cons a l => rfl
    by_cases h32 : 32 < s.size
    · have hrr : r = false := by rw [← HR.out, rightB, decide_eq_false (by omega)]; rfl
      subst hrr
      have h32I : 32 < (s.size : Int) := by omega
      clear HR
      go_enter Tryz.func53, Tryz.ntmps53
      go_wp2_with fail
      go_ret
      exact ⟨rfl, Below.refl _ _⟩
    · have hrr : (bytesS s).all okByte = r := by rw [← HR.out, rightB, decide_eq_true (by omega)]; rfl
      have HRR := Lib.hid hrr
      have h32I : (s.size : Int) ≤ 32 := by omega
      have hB : Below w.heap.size w (Lib.bytesWorld w 5 s) := ⟨rfl, rfl, rfl, by rw [Lib.bytesWorld_size]; omega, fun k hk => Lib.bytesWorld_at_old w _ s k hk⟩
      have HB := Lib.hid hB
      have hcv := Lib.run_convert_string_bytes (P := Tryz.prog) w 9 29 5 s Tryz.underlying9 Tryz.underlying29 Tryz.underlying5
      have HCV := Lib.hid hcv
      have hbl := bytesS_length s
      have HBL := Lib.hid hbl
      clear HR hrr hB hcv hbl
      go_enter Tryz.func53, Tryz.ntmps53
      go_wp2_with (refine wpList_exec_ran (o := ⟨some 15, _, _, _, _, _⟩) rfl (run_conv (HCV.out)) ?_)
      go_loopw [17] (fun i wr => ∃ k : Nat, i = .int .i64 k ∧ k ≤ s.size ∧ ((bytesS s).drop k).all okByte = r ∧ Lib.bytesWorld w 5 s = wr) (fun i _ => s.size - (intOf i).toNat)
      case atStart => exact ⟨0, rfl, Nat.zero_le _, by rw [List.drop_zero]; exact HRR.out, rfl⟩
      case round =>
        obtain ⟨k, rfl, hk, hall, rfl⟩ := hrel
        by_cases hlt : k < s.size
        · have hcell := Lib.bytesWorld_cell w 5 s k hlt
          rw [bytesS_get] at hcell
          obtain ⟨x, hx⟩ : ∃ x, (bytesS s)[k]? = some x := ⟨_, List.getElem?_eq_getElem (by rw [HBL.out]; exact hlt)⟩
          have hxd : (bytesS s).getD k 0 = x := by simp [List.getD, hx]
          have hx256 : x < 256 := bytesS_lt s x (List.mem_of_getElem? hx)
          rw [hxd] at hcell
          have hd : (bytesS s).drop k = x :: (bytesS s).drop (k + 1) := by
            obtain ⟨h1, h2⟩ := List.getElem?_eq_some_iff.1 hx
            rw [List.drop_eq_getElem_cons h1, h2]
          rw [hd, List.all_cons] at hall
          have HALL := Lib.hid hall
          clear hall hd hxd hx
          rcases (show (x < 48 ∧ x ≠ 45) ∨ (x = 45) ∨ (48 ≤ x ∧ x ≤ 57) ∨ (58 ≤ x ∧ x ≤ 96) ∨ (97 ≤ x ∧ x ≤ 122) ∨ (123 ≤ x) by omega) with hx | hx | hx | hx | hx | hx
          · have i0 : ¬ 97 ≤ (x : Int) := by omega
            have i1 : ¬ 48 ≤ (x : Int) := by omega
            have i9 : ((x : Int) != 45) = true := by rw [bne_iff_ne]; omega
            have hok : okByte x = false := by unfold okByte; simp; omega
            have hrr : r = false := by have h := HALL.out; rw [hok, Bool.false_and] at h; exact h.symm
            subst hrr
            clear hok hx HALL
            go_wp2_with fail
            go_ret
            exact ⟨rfl, HB.out⟩
          · have i0 : ¬ 97 ≤ (x : Int) := by omega
            have i1 : ¬ 48 ≤ (x : Int) := by omega
            have i9 : ((x : Int) != 45) = false := by rw [bne_eq_false_iff_eq]; omega
            have hok : okByte x = true := by unfold okByte; simp; omega
            have hrest : ((bytesS s).drop (k + 1)).all okByte = r := by have h := HALL.out; rw [hok, Bool.true_and] at h; exact h
            have HREST := Lib.hid hrest
            clear hrest hok hx
            go_wp2_with fail
            go_roundw
            case rel => exact ⟨k + 1, by go_num, by omega, HREST.out, trivial⟩
            case measure => simp [intOf]; omega
          · have i0 : ¬ 97 ≤ (x : Int) := by omega
            have i1 : 48 ≤ (x : Int) := by omega
            have i2 : (x : Int) ≤ 57 := by omega
            have hok : okByte x = true := by unfold okByte; simp; omega
            have hrest : ((bytesS s).drop (k + 1)).all okByte = r := by have h := HALL.out; rw [hok, Bool.true_and] at h; exact h
            have HREST := Lib.hid hrest
            clear hrest hok hx
            go_wp2_with fail
            go_roundw
            case rel => exact ⟨k + 1, by go_num, by omega, HREST.out, trivial⟩
            case measure => simp [intOf]; omega
          · have i0 : ¬ 97 ≤ (x : Int) := by omega
            have i1 : 48 ≤ (x : Int) := by omega
            have i2 : ¬ (x : Int) ≤ 57 := by omega
            have i9 : ((x : Int) != 45) = true := by rw [bne_iff_ne]; omega
            have hok : okByte x = false := by unfold okByte; simp; omega
            have hrr : r = false := by have h := HALL.out; rw [hok, Bool.false_and] at h; exact h.symm
            subst hrr
            clear hok hx HALL
            go_wp2_with fail
            go_ret
            exact ⟨rfl, HB.out⟩
          · have i0 : 97 ≤ (x : Int) := by omega
            have i1 : (x : Int) ≤ 122 := by omega
            have i2 : 48 ≤ (x : Int) := by omega
            have i3 : ¬ (x : Int) ≤ 57 := by omega
            have hok : okByte x = true := by unfold okByte; simp; omega
            have hrest : ((bytesS s).drop (k + 1)).all okByte = r := by have h := HALL.out; rw [hok, Bool.true_and] at h; exact h
            have HREST := Lib.hid hrest
            clear hrest hok hx
            go_wp2_with fail
            go_roundw
            case rel => exact ⟨k + 1, by go_num, by omega, HREST.out, trivial⟩
            case measure => simp [intOf]; omega
          · have i0 : 97 ≤ (x : Int) := by omega
            have i1 : ¬ (x : Int) ≤ 122 := by omega
            have i2 : 48 ≤ (x : Int) := by omega
            have i3 : ¬ (x : Int) ≤ 57 := by omega
            have i9 : ((x : Int) != 45) = true := by rw [bne_iff_ne]; omega
            have hok : okByte x = false := by unfold okByte; simp; omega
            have hrr : r = false := by have h := HALL.out; rw [hok, Bool.false_and] at h; exact h.symm
            subst hrr
            clear hok hx HALL
            go_wp2_with fail
            go_ret
            exact ⟨rfl, HB.out⟩
        · obtain rfl : k = s.size := by omega
          rw [List.drop_of_length_le (by rw [HBL.out]; exact Nat.le_refl _), List.all_nil] at hall
          subst hall
          go_wp2_with fail
          go_ret
          exact ⟨rfl, HB.out⟩

/-- A disk's block. -/
def DB (W : World) (db mb : Nat) (room used made : Int) (fails : Bool) : Prop :=
  W.heap[db]? = some (.cells #[.map (some mb), .int .i64 room, .int .i64 used, .int .i64 made, .bool fails] 62 (0, 0))
theorem DB.cells {W : World} {db mb : Nat} {room used made : Int} {fails : Bool} (h : DB W db mb room used made fails) :
    (W.cell? ⟨db, 0, none⟩ = some (.map (some mb)) ∧ W.cell? ⟨db, 1, none⟩ = some (.int .i64 room) ∧ W.cell? ⟨db, 2, none⟩ = some (.int .i64 used) ∧ W.cell? ⟨db, 3, none⟩ = some (.int .i64 made) ∧ W.cell? ⟨db, 4, none⟩ = some (.bool fails)) ∧
      ∀ i, W.frozen? ⟨db, i, none⟩ = false := by
  unfold DB at h
  refine ⟨⟨?_, ?_, ?_, ?_, ?_⟩, fun i => ?_⟩ <;> simp [World.cell?, World.frozen?, h]
theorem DB.lt {W : World} {db mb : Nat} {room used made : Int} {fails : Bool} (h : DB W db mb room used made fails) : db < W.heap.size := (Array.getElem?_eq_some_iff.1 h).1
theorem DB.below {W W' : World} {db mb : Nat} {room used made : Int} {fails : Bool} (h : DB W db mb room used made fails) (hB : Below W.heap.size W W') : DB W' db mb room used made fails := (hB.block db h.lt).trans h

/-- What is refused whatever the file is. -/
def refN (fails : Bool) (s : ByteArray) (k : Int) : Nat := if fails then 16 else if rightB s = false ∨ k < 0 then 1 else 0

def ErrB (w : World) (n : Nat) (e : Ending) (W : World) : Prop := e = .returned (.int .i64 (n : Nat)) ∧ Below w.heap.size w W

set_option maxRecDepth 100000 in
set_option maxHeartbeats 2000000 in
theorem refusal_calls (db mb : Nat) (room used made : Int) (fails : Bool) (s : ByteArray) (hs63 : s.size ≤ 9223372036854775807) (k : Int) (w : World) (h : DB w db mb room used made fails) :
    Calls Tryz.prog 27 #[.pointer (some ⟨db, 0, none⟩), .string s, .int .i64 k] w (ErrB w (refN fails s k)) := by
  obtain ⟨⟨_, _, _, _, c4⟩, _⟩ := h.cells
  have CN := Lib.hid (rightName_calls s w hs63)
  obtain ⟨n, hn⟩ : ∃ n, refN fails s k = n := ⟨_, rfl⟩
  rw [hn]
  have HN := Lib.hid hn
  clear hn
  cases fails with
  | true =>
    have : n = 16 := by rw [← HN.out]; rfl
    subst this
    clear HN
    go_enter Tryz.func27, Tryz.ntmps27
    go_wp2_with fail
    go_ret
    exact ⟨rfl, Below.refl _ _⟩
  | false =>
    have hn : (if rightB s = false ∨ k < 0 then 1 else 0) = n := by rw [← HN.out]; rfl
    have HN2 := Lib.hid hn
    clear hn HN
    obtain ⟨r, hr⟩ : ∃ r, rightB s = r := ⟨_, rfl⟩
    rw [hr] at CN HN2
    clear hr
    go_enter Tryz.func27, Tryz.ntmps27
    go_wp2_with fail
    refine CN.out.mono ?_
    clear CN
    rintro e W ⟨rfl, hB⟩
    have HB := Lib.hid hB
    clear hB
    cases r with
    | false =>
      have : n = 1 := by rw [← HN2.out]; rfl
      subst this
      clear HN2
      go_wp2_with fail
      go_ret
      exact ⟨rfl, HB.out⟩
    | true =>
      by_cases hk : k < 0
      · have : n = 1 := by rw [← HN2.out]; simp [hk]
        subst this
        clear HN2
        go_wp2_with fail
        go_ret
        exact ⟨rfl, HB.out⟩
      · have : n = 0 := by rw [← HN2.out]; simp [hk]
        subst this
        have hkI : 0 ≤ k := by omega
        clear HN2 hk
        go_wp2_with fail
        go_ret
        exact ⟨rfl, HB.out⟩

set_option maxRecDepth 100000 in
theorem refusal_nil (s : ByteArray) (k : Int) (w : World) : Calls Tryz.prog 27 #[.pointer none, .string s, .int .i64 k] w (ErrB w 9) := by
  go_enter Tryz.func27, Tryz.ntmps27
  go_wp2_with fail
  go_ret
  exact ⟨rfl, Below.refl _ _⟩

end Go.Proofs.YtnhkpemajknfnaaGreatDoor.Disk

/-
  Contracts of disk's New and known.
-/
namespace Go.Proofs.YtnhkpemajknfnaaGreatDoor.Disk
open Go Go.RowKit Go.Proofs.YtnhkpemajknfnaaGreatDoor.Law

/-- A file's block. -/
def FB (W : World) (fb : Nat) (nt : Bool) (nv : Value) (st : Bool) (sv : Value) (sh : Bool) (cv : Value) : Prop :=
  W.heap[fb]? = some (.cells #[.bool nt, nv, .bool st, sv, .bool sh, cv] 68 (0, 0))
theorem FB.cells {W : World} {fb : Nat} {nt st sh : Bool} {nv sv cv : Value} (h : FB W fb nt nv st sv sh cv) :
    (W.cell? ⟨fb, 0, none⟩ = some (.bool nt) ∧ W.cell? ⟨fb, 1, none⟩ = some nv ∧ W.cell? ⟨fb, 2, none⟩ = some (.bool st) ∧ W.cell? ⟨fb, 3, none⟩ = some sv ∧ W.cell? ⟨fb, 4, none⟩ = some (.bool sh) ∧ W.cell? ⟨fb, 5, none⟩ = some cv) ∧
      ∀ i, W.frozen? ⟨fb, i, none⟩ = false := by
  unfold FB at h
  refine ⟨⟨?_, ?_, ?_, ?_, ?_, ?_⟩, fun i => ?_⟩ <;> simp [World.cell?, World.frozen?, h]
theorem FB.lt {W : World} {fb : Nat} {nt st sh : Bool} {nv sv cv : Value} (h : FB W fb nt nv st sv sh cv) : fb < W.heap.size := (Array.getElem?_eq_some_iff.1 h).1
theorem FB.below {W W' : World} {fb : Nat} {nt st sh : Bool} {nv sv cv : Value} (h : FB W fb nt nv st sv sh cv) (hB : Below W.heap.size W W') : FB W' fb nt nv st sv sh cv := (hB.block fb h.lt).trans h

abbrev fileV (nt : Bool) (nv : Value) (st : Bool) (sv : Value) (sh : Bool) (cv : Value) : Value := .agg #[.bool nt, nv, .bool st, sv, .bool sh, cv]

/-- What New leaves. -/
def Made (w : World) (room : Int) (e : Ending) (W : World) : Prop :=
  ∃ db mb, e = .returned (.tuple #[.pointer (some ⟨db, 0, none⟩), .int .i64 0]) ∧ w.heap.size ≤ mb ∧ w.heap.size ≤ db ∧ mb ≠ db ∧ DB W db mb room 0 0 false ∧ MapP Tryz.prog 9 W mb 0 (fun _ => none) ∧ Below w.heap.size w W

set_option maxRecDepth 100000 in
set_option maxHeartbeats 2000000 in
theorem new_calls (room : Int) (w : World) (h : 0 ≤ room ∧ room ≤ 1073741824) : Calls Tryz.prog 8 #[.int .i64 room] w (Made w room) := by
  have hr : decide (0 ≤ room ∧ room ≤ 1073741824) = true := by simp [h]
  have cR := rightRoom_calls room w
  rw [hr] at cR
  have CR := Lib.hid cR
  have hmm := @run_makeMap Tryz.prog
  have hm := MapP.made Tryz.prog 9 w
  have HM := Lib.hid hm
  clear cR hr hm
  go_enter Tryz.func8, Tryz.ntmps8
  go_wp2_with fail
  refine CR.out.mono ?_
  rintro e W ⟨rfl, rfl⟩
  go_wp2_with fail
  go_ret2
  refine ⟨w.heap.size + 1, w.heap.size, rfl, Nat.le_refl _, Nat.le_succ _, by omega, ?_, ?_, ((Below.refl _ _).alloc (Nat.le_refl _) _).alloc (by simp) _⟩
  · have := heap_alloc_new (w.alloc (.map #[] 0)) (.cells #[.map (some w.heap.size), .int .i64 room, .int .i64 0, .int .i64 0, .bool false] 62)
    rw [World.size_alloc] at this
    exact this
  · exact HM.out.at (Below.heap_alloc _ _ _ (by simp))

set_option maxRecDepth 100000 in
theorem new_refused (room : Int) (w : World) (h : ¬ (0 ≤ room ∧ room ≤ 1073741824)) : Calls Tryz.prog 8 #[.int .i64 room] w fun e W => e = .returned (.tuple #[.pointer none, .int .i64 1]) ∧ w = W := by
  have hr : decide (0 ≤ room ∧ room ≤ 1073741824) = false := by simpa using h
  have cR := rightRoom_calls room w
  rw [hr] at cR
  have CR := Lib.hid cR
  clear cR hr h
  go_enter Tryz.func8, Tryz.ntmps8
  go_wp2_with fail
  refine CR.out.mono ?_
  rintro e W ⟨rfl, rfl⟩
  go_wp2_with fail
  go_ret2
  exact ⟨rfl, rfl⟩

theorem zero_ptr (w : World) : (zeroValue 70).run Tryz.prog w = .ok (.pointer none) w := by kernel_rfl

/-- What known answers. -/
def KnownOut (w : World) (v : Value) (e : Ending) (W : World) : Prop := e = .returned v ∧ Below w.heap.size w W

set_option maxRecDepth 100000 in
set_option maxHeartbeats 2000000 in
theorem known_some (db mb : Nat) (room used made : Int) (fails : Bool) (n : Nat) (F : ByteArray → Option Nat) (s : ByteArray) (hs : Short s) (w : World) (h : DB w db mb room used made fails) (hm : MapP Tryz.prog 9 w mb n F)
    (fb : Nat) (hF : F s = some fb) (nt st sh : Bool) (na sa ca : Option Addr) (nl nc sl sc cl cc : Nat) (hf : FB w fb nt (.slice na nl nc) st (.slice sa sl sc) sh (.slice ca cl cc)) :
    Calls Tryz.prog 28 #[.pointer (some ⟨db, 0, none⟩), .string s] w (KnownOut w (fileV nt (.slice na nl nc) st (.slice sa sl sc) sh (.slice ca cl cc))) := by
  have hdb := h.lt
  have hfb := hf.lt
  obtain ⟨⟨d0, _, _, _, _⟩, _⟩ := h.cells
  obtain ⟨⟨f0, f1, f2, f3, f4, f5⟩, _⟩ := hf.cells
  have hl : ∀ o, (Instr.lookup 60 (.map (some mb)) (.string s) false).run Tryz.prog (w.alloc o) = .ok (.pointer (some ⟨fb, 0, none⟩)) (w.alloc o) := fun o => by
    have := (hm.at (W' := w.alloc o) (Below.heap_alloc _ _ _ hm.lt)).look Tryz.underlying9 Tryz.underlying60 (zero_ptr _) hs
    rwa [hF] at this
  have HL := Lib.hid hl
  clear hl h hm hf hF
  go_enter Tryz.func28, Tryz.ntmps28
  go_wp2_with (first
    | (refine wpList_lookup_ran (o := ⟨some 13, _, _, _, _, _⟩) rfl _ _ _ _ rfl rfl rfl (HL.out _) ?_)
    | (refine wpList_lookup_ran (o := ⟨some 22, _, _, _, _, _⟩) rfl _ _ _ _ rfl rfl rfl (HL.out _) ?_))
  refine bodyPost_ret (v := fileV nt (.slice na nl nc) st (.slice sa sl sc) sh (.slice ca cl cc)) (by simp [results, Tryz.results28, go_sem]) rfl ⟨rfl, ?_⟩
  exact (Below.refl _ _).alloc (Nat.le_refl _) _

/-- The file that isn't there. -/
abbrev noFile : Value := fileV false (.slice none 0 0) false (.slice none 0 0) false (.slice none 0 0)

set_option maxRecDepth 100000 in
set_option maxHeartbeats 2000000 in
theorem known_none (db mb : Nat) (room used made : Int) (fails : Bool) (n : Nat) (F : ByteArray → Option Nat) (s : ByteArray) (hs : Short s) (w : World) (h : DB w db mb room used made fails) (hm : MapP Tryz.prog 9 w mb n F)
    (hF : F s = none) :
    Calls Tryz.prog 28 #[.pointer (some ⟨db, 0, none⟩), .string s] w (KnownOut w noFile) := by
  have hdb := h.lt
  obtain ⟨⟨d0, _, _, _, _⟩, _⟩ := h.cells
  have hl : ∀ o, (Instr.lookup 60 (.map (some mb)) (.string s) false).run Tryz.prog (w.alloc o) = .ok (.pointer none) (w.alloc o) := fun o => by
    have := (hm.at (W' := w.alloc o) (Below.heap_alloc _ _ _ hm.lt)).look Tryz.underlying9 Tryz.underlying60 (zero_ptr _) hs
    rwa [hF] at this
  have HL := Lib.hid hl
  clear hl h hm hF
  go_enter Tryz.func28, Tryz.ntmps28
  go_wp2_with (first
    | (refine wpList_lookup_ran (o := ⟨some 13, _, _, _, _, _⟩) rfl _ _ _ _ rfl rfl rfl (HL.out _) ?_)
    | (refine wpList_lookup_ran (o := ⟨some 22, _, _, _, _, _⟩) rfl _ _ _ _ rfl rfl rfl (HL.out _) ?_))
  refine bodyPost_ret (v := noFile) (by simp [results, Tryz.results28, go_sem]) rfl ⟨rfl, ?_⟩
  exact ((Below.refl _ _).alloc (Nat.le_refl _) _)

set_option maxRecDepth 100000 in
theorem known_nil (s : ByteArray) (w : World) :
    Calls Tryz.prog 28 #[.pointer none, .string s] w (KnownOut w noFile) := by
  go_enter Tryz.func28, Tryz.ntmps28
  go_wp2
  refine bodyPost_ret (v := noFile) (by simp [results, Tryz.results28, go_sem]) rfl ⟨rfl, ?_⟩
  exact ((Below.refl _ _).alloc (Nat.le_refl _) _)

end Go.Proofs.YtnhkpemajknfnaaGreatDoor.Disk

/-
  The changes that aren't durable, as a row of the disk's own; contract of note.
-/
namespace Go.Proofs.YtnhkpemajknfnaaGreatDoor.Disk
open Go Go.RowKit Go.Proofs.YtnhkpemajknfnaaGreatDoor.Law

/-- A change. -/
structure Chg where
  n : Nat
  kind : Nat
  pos : Nat
  s : ByteArray

abbrev chgV (c : Chg) : Value := .agg #[.int .i64 (c.n : Nat), .int .i64 (c.kind : Nat), .int .i64 (c.pos : Nat), .string c.s]
/-- Changes as cells. -/
def flatC : List Chg → List Value
  | [] => []
  | c :: r => .int .i64 (c.n : Nat) :: .int .i64 (c.kind : Nat) :: .int .i64 (c.pos : Nat) :: .string c.s :: flatC r
theorem flatC_length : ∀ l : List Chg, (flatC l).length = l.length * 4
  | [] => rfl
  | c :: r => by simp only [flatC, List.length_cons, flatC_length r]; omega
theorem flatC_append : ∀ a b : List Chg, flatC (a ++ b) = flatC a ++ flatC b
  | [], b => by simp [flatC]
  | x :: a, b => by simp only [List.cons_append, flatC, flatC_append a b]
theorem flatC_one : ∀ l : List Chg, ∀ u ∈ flatC l, u.oneCell' = true
  | [], u, h => by simp [flatC] at h
  | c :: r, u, h => by
    simp only [flatC, List.mem_cons] at h
    rcases h with rfl | rfl | rfl | rfl | h
    · rfl
    · rfl
    · rfl
    · rfl
    · exact flatC_one r u h

/-- A row of changes. -/
def OwnC (W : World) (base : Nat) (v : Value) (l : List Chg) : Prop := W.ownsRow base 73 4 v l.length (flatC l)
theorem OwnC.nil (W : World) (base : Nat) : OwnC W base (.slice none 0 0) [] := ⟨rfl, .inl ⟨rfl, rfl⟩⟩
theorem OwnC.own {W : World} {base : Nat} {v : Value} {l : List Chg} (h : OwnC W base v l) : ∀ g, v.ownBlock = some g → base ≤ g ∧ g < W.heap.size := fun g hg => by
  have := World.ownsRow.lt h g hg
  exact this
theorem OwnC.form {W : World} {base : Nat} {v : Value} {l : List Chg} (h : OwnC W base v l) : ∃ A cap, v = .slice A l.length cap := by
  rcases h.2 with ⟨rfl, h0⟩ | ⟨g, cap, cur, rfl, _⟩
  · exact ⟨none, 0, by rw [h0]⟩
  · exact ⟨_, _, rfl⟩
theorem OwnC.keep {W W' : World} {base : Nat} {v : Value} {l : List Chg} (h : OwnC W base v l) (hb : ∀ g, v.ownBlock = some g → W'.heap[g]? = W.heap[g]?) : OwnC W' base v l := by
  refine ⟨h.1, ?_⟩
  rcases h.2 with h0 | ⟨g, cap, cur, rfl, h1, h2, h3⟩
  · exact .inl h0
  · exact .inr ⟨g, cap, cur, rfl, h1, (hb g rfl).trans h2, h3⟩

theorem info_change : (Tryz.prog.info? 73).map (fun i => (i.zero, i.size, i.bytes)) = some (some (.agg #[.int .i64 0, .int .i64 0, .int .i64 0, .string ⟨#[]⟩]), 4, 40) := by kernel_rfl

/-- A change that lies in a block is put behind a row's. -/
theorem OwnC.append {W : World} {base : Nat} {v : Value} {l : List Chg} (h : OwnC W base v l) (hbase : base ≤ W.heap.size) (c : Chg) (ty : TypeId) (b : Nat)
    (hb : W.heap[b]? = some (.cells #[.int .i64 (c.n : Nat), .int .i64 (c.kind : Nat), .int .i64 (c.pos : Nat), .string c.s] 73 (0, 0))) (hroom : (l.length + 1) * 40 ≤ 140737488355328) :
    ∃ v' W', (Builtin.append_ #[66, 66] ty #[v, .slice (some ⟨b, 0, none⟩) 1 1]).run Tryz.prog W = .ok v' W' ∧ OwnC W' base v' (l ++ [c]) ∧ W.grownBy W' v.ownBlock ∧ (v'.ownBlock = v.ownBlock ∨ v'.ownBlock = some W.heap.size) := by
  obtain ⟨i0, hi, hz0, hz1, hz2⟩ := info_parts info_change
  obtain ⟨v', W', hrun, h2, h3, _, h5⟩ := run_append_own_at (P := Tryz.prog) W base 66 ty 73 i0 _ 4 40 Tryz.underlying66 hi hz0 hz1 hz2 rfl (by decide) v l.length (flatC l) h ⟨b, 0, none⟩ 1 1 (flatC [c]) (flatC_length [c])
    (fun j u hu => by
      rw [Addr.add_lit]
      match j, hu with
      | 0, hu => simp [flatC] at hu; subst hu; simp [World.cell?, hb]
      | 1, hu => simp [flatC] at hu; subst hu; simp [World.cell?, hb]
      | 2, hu => simp [flatC] at hu; subst hu; simp [World.cell?, hb]
      | 3, hu => simp [flatC] at hu; subst hu; simp [World.cell?, hb]
      | j + 4, hu => simp [flatC] at hu) (flatC_one [c]) (by simp only [maxLen]; omega) hroom hbase
  refine ⟨v', W', hrun, ?_, h3, h5⟩
  show W'.ownsRow _ _ _ _ _ _
  rw [List.length_append, flatC_append]
  exact h2

theorem block_set {w : World} {b : Nat} {cs : Array Value} {t : TypeId} {z : Nat × Nat} (h : w.heap[b]? = some (.cells cs t z)) (i : Nat) (v : Value) : (w.setCell ⟨b, i, none⟩ v).heap[b]? = some (.cells (cs.setIfInBounds i v) t z) := by
  simp [World.setCell, Array.getElem?_modify, h]

/-- What note leaves. -/
def Noted (w : World) (db mb fb : Nat) (room used : Int) (made : Nat) (fails nt st sh : Bool) (nv sv cv : Value) (l : List Chg) (c : Chg) (base : Nat) (W : World) : Prop :=
  ∃ cv', DB W db mb room used ((made + 1 : Nat) : Int) fails ∧ FB W fb nt nv st sv sh cv' ∧ OwnC W base cv' (l ++ [⟨made, c.kind, c.pos, c.s⟩]) ∧ (cv'.ownBlock = cv.ownBlock ∨ ∃ g, cv'.ownBlock = some g ∧ w.heap.size ≤ g) ∧
    w.os = W.os ∧ w.tape = W.tape ∧ w.output = W.output ∧ w.heap.size ≤ W.heap.size ∧ ∀ k, k < w.heap.size → k ≠ db → k ≠ fb → cv.ownBlock ≠ some k → W.heap[k]? = w.heap[k]?

theorem note_append {w : World} {db base : Nat} {v : Value} {l : List Chg} (h : OwnC w base v l) (hbase : base ≤ w.heap.size) (c : Chg) (ty : TypeId) (hdb : db < base) (hroom : (l.length + 1) * 40 ≤ 140737488355328) (u : Value) :
    ∃ A len cap W1, (Builtin.append_ #[66, 66] ty #[v, .slice (some ⟨w.heap.size + 1, 0, none⟩) 1 1]).run Tryz.prog ((((w.setCell ⟨db, 3, none⟩ u).alloc (.cells #[.int .i64 (c.n : Nat), .int .i64 (c.kind : Nat), .int .i64 (c.pos : Nat), .string c.s] 73)).alloc (.cells #[.int .i64 (c.n : Nat), .int .i64 (c.kind : Nat), .int .i64 (c.pos : Nat), .string c.s] 73)).drew) = .ok (.slice A len cap) W1 ∧
      OwnC W1 base (.slice A len cap) (l ++ [c]) ∧ ((((w.setCell ⟨db, 3, none⟩ u).alloc (.cells #[.int .i64 (c.n : Nat), .int .i64 (c.kind : Nat), .int .i64 (c.pos : Nat), .string c.s] 73)).alloc (.cells #[.int .i64 (c.n : Nat), .int .i64 (c.kind : Nat), .int .i64 (c.pos : Nat), .string c.s] 73)).drew).grownBy W1 v.ownBlock ∧
      ((Value.slice A len cap).ownBlock = v.ownBlock ∨ (Value.slice A len cap).ownBlock = some (w.heap.size + 2)) := by
  obtain ⟨W0, hW0⟩ : ∃ W0, ((((w.setCell ⟨db, 3, none⟩ u).alloc (.cells #[.int .i64 (c.n : Nat), .int .i64 (c.kind : Nat), .int .i64 (c.pos : Nat), .string c.s] 73)).alloc (.cells #[.int .i64 (c.n : Nat), .int .i64 (c.kind : Nat), .int .i64 (c.pos : Nat), .string c.s] 73)).drew) = W0 := ⟨_, rfl⟩
  have hsz : W0.heap.size = w.heap.size + 2 := by rw [← hW0]; simp [World.setCell]
  have hk : ∀ k, k < w.heap.size → k ≠ db → W0.heap[k]? = w.heap[k]? := fun k hk hne => by
    rw [← hW0]
    show (((w.setCell ⟨db, 3, none⟩ u).alloc _).alloc _).heap[k]? = _
    rw [Below.heap_alloc _ _ _ (by simp [World.setCell]; omega), Below.heap_alloc _ _ _ (by simp [World.setCell]; omega), Below.heap_setCell _ _ _ _ hne]
  have hb : W0.heap[w.heap.size + 1]? = some (.cells #[.int .i64 (c.n : Nat), .int .i64 (c.kind : Nat), .int .i64 (c.pos : Nat), .string c.s] 73 (0, 0)) := by
    rw [← hW0]
    have := heap_alloc_new ((w.setCell ⟨db, 3, none⟩ u).alloc (.cells #[.int .i64 (c.n : Nat), .int .i64 (c.kind : Nat), .int .i64 (c.pos : Nat), .string c.s] 73)) (.cells #[.int .i64 (c.n : Nat), .int .i64 (c.kind : Nat), .int .i64 (c.pos : Nat), .string c.s] 73)
    have e : ((w.setCell ⟨db, 3, none⟩ u).alloc (.cells #[.int .i64 (c.n : Nat), .int .i64 (c.kind : Nat), .int .i64 (c.pos : Nat), .string c.s] 73)).heap.size = w.heap.size + 1 := by simp [World.setCell]
    rw [e] at this
    exact this
  rw [hW0]
  have hO : OwnC W0 base v l := h.keep fun g hg => hk g (h.own g hg).2 (by have := (h.own g hg).1; omega)
  obtain ⟨v', W1, hrun, h1, h2, h3⟩ := hO.append (by omega) c ty (w.heap.size + 1) hb hroom
  obtain ⟨A, cap, rfl⟩ := h1.form
  exact ⟨A, _, cap, W1, hrun, h1, h2, by rw [← hsz]; exact h3⟩

theorem note_done {w W0 W1 : World} {db mb fb : Nat} {room used : Int} {made : Nat} {fails nt st sh : Bool} {nv sv cv : Value} {l : List Chg} {c : Chg} {base : Nat} (x : Obj)
    (h : DB w db mb room used made fails) (hf : FB w fb nt nv st sv sh cv) (hne : db ≠ fb) (hl : OwnC w base cv l) (hdbb : db < base) (hfbb : ∀ g, cv.ownBlock = some g → g ≠ fb)
    (hW0 : W0 = ((((w.setCell ⟨db, 3, none⟩ (.int .i64 ((made : Nat) + 1))).alloc x).alloc x).drew)) (A : Option Addr) (len cap : Nat)
    (hO : OwnC W1 base (.slice A len cap) (l ++ [⟨made, c.kind, c.pos, c.s⟩])) (hgr : W0.grownBy W1 cv.ownBlock) (hor : (Value.slice A len cap).ownBlock = cv.ownBlock ∨ (Value.slice A len cap).ownBlock = some (w.heap.size + 2)) :
    Noted w db mb fb room used made fails nt st sh nv sv cv l c base (W1.setCell ⟨fb, 5, none⟩ (.slice A len cap)) := by
  have hdb := h.lt
  have hfb := hf.lt
  have hsz : W0.heap.size = w.heap.size + 2 := by rw [hW0]; simp [World.setCell]
  have hk : ∀ k, k < w.heap.size → k ≠ db → W0.heap[k]? = w.heap[k]? := fun k hk hne => by
    rw [hW0]
    show (((w.setCell ⟨db, 3, none⟩ _).alloc _).alloc _).heap[k]? = _
    rw [Below.heap_alloc _ _ _ (by simp [World.setCell]; omega), Below.heap_alloc _ _ _ (by simp [World.setCell]; omega), Below.heap_setCell _ _ _ _ hne]
  have hd0 : W0.heap[db]? = some (.cells #[.map (some mb), .int .i64 room, .int .i64 used, .int .i64 ((made + 1 : Nat) : Int), .bool fails] 62 (0, 0)) := by
    rw [hW0]
    show (((w.setCell ⟨db, 3, none⟩ _).alloc _).alloc _).heap[db]? = _
    rw [Below.heap_alloc _ _ _ (by simp [World.setCell]; omega), Below.heap_alloc _ _ _ (by simp [World.setCell]; omega), block_set h]
    simp
  have hcf : cv.ownBlock ≠ some fb := fun e => hfbb fb e rfl
  have hcd : cv.ownBlock ≠ some db := fun e => by have := (hl.own db e).1; omega
  refine ⟨.slice A len cap, ?_, ?_, ?_, ?_, ?_, ?_, ?_, ?_, ?_⟩
  · exact (Below.heap_setCell _ _ _ _ hne).trans ((hgr.block db (by omega) (fun e => hcd e.symm)).trans hd0)
  · have := block_set ((hgr.block fb (by omega) (fun e => hcf e.symm)).trans ((hk fb hfb (Ne.symm hne)).trans hf)) 5 (.slice A len cap)
    exact this.trans (by simp)
  · refine hO.keep fun g hg => Below.heap_setCell _ _ _ _ ?_
    rintro rfl
    rcases hor with e | e
    · exact hcf (e.symm.trans hg)
    · rw [hg] at e
      simp only [Option.some.injEq] at e
      omega
  · rcases hor with e | e
    · exact .inl e
    · exact .inr ⟨_, e, by omega⟩
  · have := hgr.os; rw [hW0] at this; exact this.symm
  · have := hgr.tape; rw [hW0] at this; exact this.symm
  · have := hgr.output; rw [hW0] at this; exact this.symm
  · have := hgr.size; simp [World.setCell]; omega
  · intro k h1 h2 h3 h4
    rw [Below.heap_setCell _ _ _ _ h3, hgr.block k (by omega) (fun e => h4 e.symm), hk k h1 h2]

set_option maxRecDepth 100000 in
set_option maxHeartbeats 2000000 in
theorem note_calls (db mb fb : Nat) (room used : Int) (made : Nat) (hmade : made ≤ 4611686018427387904) (fails : Bool) (nt st sh : Bool) (na sa ca : Option Addr) (nl nc sl sc cl cc : Nat) (l : List Chg) (c : Chg) (base : Nat) (w : World)
    (h : DB w db mb room used made fails) (hf : FB w fb nt (.slice na nl nc) st (.slice sa sl sc) sh (.slice ca cl cc)) (hne : db ≠ fb) (hl : OwnC w base (.slice ca cl cc) l) (hbase : base ≤ w.heap.size) (hdbb : db < base) (hfbb : ∀ g, (Value.slice ca cl cc).ownBlock = some g → g ≠ fb) (hroom : (l.length + 1) * 40 ≤ 140737488355328) :
    Calls Tryz.prog 31 #[.pointer (some ⟨db, 0, none⟩), .pointer (some ⟨fb, 0, none⟩), chgV c] w fun e W => e = .returned (.tuple #[]) ∧ Noted w db mb fb room used made fails nt st sh (.slice na nl nc) (.slice sa sl sc) (.slice ca cl cc) l c base W := by
  have hdb := h.lt
  have hfb := hf.lt
  obtain ⟨A, len, cap, W1, hrun, hO, hgr, hor⟩ := note_append hl hbase ⟨made, c.kind, c.pos, c.s⟩ 66 hdbb hroom (.int .i64 ((made : Nat) + 1))
  have HRUN := Lib.hid hrun
  obtain ⟨⟨d0, d1, d2, d3, d4⟩, d5⟩ := h.cells
  obtain ⟨⟨f0, f1, f2, f3, f4, f5⟩, f6⟩ := hf.cells
  have f65 := f6 5
  have d53 := d5 3
  have hW1f : W1.heap[fb]? = w.heap[fb]? := by
    rw [hgr.block fb (by simp [World.setCell]; omega) (fun e => hfbb fb e.symm rfl)]
    show (((w.setCell ⟨db, 3, none⟩ _).alloc _).alloc _).heap[fb]? = _
    rw [Below.heap_alloc _ _ _ (by simp [World.setCell]; omega), Below.heap_alloc _ _ _ (by simp [World.setCell]; omega), Below.heap_setCell _ _ _ _ (Ne.symm hne)]
  have hf1 : FB W1 fb nt (.slice na nl nc) st (.slice sa sl sc) sh (.slice ca cl cc) := hW1f.trans hf
  have f15 := hf1.cells.1.2.2.2.2.2
  have f165 := hf1.cells.2 5
  have hdf : ¬ db = fb := hne
  have HDONE := Lib.hid (note_done (c := c) _ h hf hne hl hdbb hfbb rfl A len cap hO hgr hor)
  clear hrun h hf hne hl hdbb hfbb hO hgr hor hf1 hW1f f6 d5 hroom hbase
  go_enter Tryz.func31, Tryz.ntmps31
  go_wp2_with fail
  go_region_law (refine step_append_ran rfl _ _ _ rfl rfl rfl HRUN.out ?_)
  all_goals
    go_wp2_with fail
    go_end0
    exact ⟨rfl, HDONE.out⟩

end Go.Proofs.YtnhkpemajknfnaaGreatDoor.Disk
