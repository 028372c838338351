/-
  Put together out of texts of one chain: what they hold stands ahead of each.
-/
import Derived.Test.YtnjjjalenhbicaaGDiskStands05
import Derived.Lib.ConvBytes
import Derived.Lib.Strings
/-
  Contracts of disk's rightName and refusal.
-/
namespace Go.Proofs.Ytnjjjalenhbicaa.Disk
open Go Go.RowKit Go.Proofs.Ytnjjjalenhbicaa.Law

def okByte (x : Nat) : Bool := decide (97 ≤ x ∧ x ≤ 122) || decide (48 ≤ x ∧ x ≤ 57) || decide (x = 45)
/-- Is a name right? -/
def rightB (s : ByteArray) : Bool := decide (1 ≤ s.size ∧ s.size ≤ 32) && (bytesS s).all okByte

theorem bytesS_get (s : ByteArray) (k : Nat) : ((s.data.toList.getD k 0).toNat) = (bytesS s).getD k 0 := by
  unfold bytesS
  rw [List.getD, List.getD, List.getElem?_map]
  cases s.data.toList[k]? <;> rfl

theorem run_conv {P : Program} {ρ : Operand → Value} {o : Oper} {w w' : World} {src dst : TypeId} {x : Operand} {xv v : Value} (hrun : (convert src dst xv).run P w = .ok v w') (ho : o.op = .convert src dst x := by rfl) (hx : ρ x = xv := by rfl) : (execOp ρ o).run P w = .ok (.value v) w' := by
  unfold execOp
  simp only [ho, hx, Sem.run_bind, Sem.run_pure, hrun, Result.andThen_ok]

def BoolB (w : World) (b : Bool) (e : Ending) (W : World) : Prop := e = .returned (.bool b) ∧ Below w.heap.size w W

set_option maxRecDepth 100000 in
set_option maxHeartbeats 2000000 in
theorem rightName_calls (s : ByteArray) (w : World) (hs63 : s.size ≤ 9223372036854775807) : Calls Try.prog 56 #[.string s] w (BoolB w (rightB s)) := by
  obtain ⟨r, hr⟩ : ∃ r, rightB s = r := ⟨_, rfl⟩
  rw [hr]
  have HR := Lib.hid hr
  clear hr
  by_cases h0 : s.size = 0
  · have hd : s.data = #[] := Array.eq_empty_of_size_eq_zero h0
    have hse : s = ⟨#[]⟩ := by cases s; simp only at hd; rw [hd]
    subst hse
    have hrr : r = false := by rw [← HR.out]; rfl
    subst hrr
    clear HR hd h0
    go_enter Try.func56, Try.ntmps56
    go_wp2
    go_ret
    exact ⟨rfl, Below.refl _ _⟩
  · have hem : s.toList.isEmpty = false := by
      rw [Lib.toList_data]
      cases hq : s.data.toList with
      | nil => exact absurd (by have : s.data.toList.length = 0 := by rw [hq]; rfl
                                rwa [Array.length_toList] at this) h0
      | cons a l => rfl
    by_cases h32 : 32 < s.size
    · have hrr : r = false := by rw [← HR.out, rightB, decide_eq_false (by omega)]; rfl
      subst hrr
      have h32I : 32 < (s.size : Int) := by omega
      clear HR
      go_enter Try.func56, Try.ntmps56
      go_wp2_with fail
      go_ret
      exact ⟨rfl, Below.refl _ _⟩
    · have hrr : (bytesS s).all okByte = r := by rw [← HR.out, rightB, decide_eq_true (by omega)]; rfl
      have HRR := Lib.hid hrr
      have h32I : (s.size : Int) ≤ 32 := by omega
      have hB : Below w.heap.size w (Lib.bytesWorld w 5 s) := ⟨rfl, rfl, rfl, by rw [Lib.bytesWorld_size]; omega, fun k hk => Lib.bytesWorld_at_old w _ s k hk⟩
      have HB := Lib.hid hB
      have hcv := Lib.run_convert_string_bytes (P := Try.prog) w 9 34 5 s Try.underlying9 Try.underlying34 Try.underlying5
      have HCV := Lib.hid hcv
      have hbl := bytesS_length s
      have HBL := Lib.hid hbl
      clear HR hrr hB hcv hbl
      go_enter Try.func56, Try.ntmps56
      go_wp2_with (refine wpList_exec_ran (o := ⟨some 15, _, _, _, _, _⟩) rfl (run_conv (HCV.out)) ?_)
      go_loopw [17] (fun i wr => ∃ k : Nat, i = .int .i64 k ∧ k ≤ s.size ∧ ((bytesS s).drop k).all okByte = r ∧ Lib.bytesWorld w 5 s = wr) (fun i _ => s.size - (intOf i).toNat)
      case atStart => exact ⟨0, rfl, Nat.zero_le _, by rw [List.drop_zero]; exact HRR.out, rfl⟩
      case round =>
        obtain ⟨k, rfl, hk, hall, rfl⟩ := hrel
        by_cases hlt : k < s.size
        · have hcell := Lib.bytesWorld_cell w 5 s k hlt
          rw [bytesS_get] at hcell
          obtain ⟨x, hx⟩ : ∃ x, (bytesS s)[k]? = some x := ⟨_, List.getElem?_eq_getElem (by rw [HBL.out]; exact hlt)⟩
          have hxd : (bytesS s).getD k 0 = x := by simp [List.getD, hx]
          have hx256 : x < 256 := bytesS_lt s x (List.mem_of_getElem? hx)
          rw [hxd] at hcell
          have hd : (bytesS s).drop k = x :: (bytesS s).drop (k + 1) := by
            obtain ⟨h1, h2⟩ := List.getElem?_eq_some_iff.1 hx
            rw [List.drop_eq_getElem_cons h1, h2]
          rw [hd, List.all_cons] at hall
          have HALL := Lib.hid hall
          clear hall hd hxd hx
          rcases (show (x < 48 ∧ x ≠ 45) ∨ (x = 45) ∨ (48 ≤ x ∧ x ≤ 57) ∨ (58 ≤ x ∧ x ≤ 96) ∨ (97 ≤ x ∧ x ≤ 122) ∨ (123 ≤ x) by omega) with hx | hx | hx | hx | hx | hx
          · have i0 : ¬ 97 ≤ (x : Int) := by omega
            have i1 : ¬ 48 ≤ (x : Int) := by omega
            have i9 : ((x : Int) != 45) = true := by rw [bne_iff_ne]; omega
            have hok : okByte x = false := by unfold okByte; simp; omega
            have hrr : r = false := by have h := HALL.out; rw [hok, Bool.false_and] at h; exact h.symm
            subst hrr
            clear hok hx HALL
            go_wp2_with fail
            go_ret
            exact ⟨rfl, HB.out⟩
          · have i0 : ¬ 97 ≤ (x : Int) := by omega
            have i1 : ¬ 48 ≤ (x : Int) := by omega
            have i9 : ((x : Int) != 45) = false := by rw [bne_eq_false_iff_eq]; omega
            have hok : okByte x = true := by unfold okByte; simp; omega
            have hrest : ((bytesS s).drop (k + 1)).all okByte = r := by have h := HALL.out; rw [hok, Bool.true_and] at h; exact h
            have HREST := Lib.hid hrest
            clear hrest hok hx
            go_wp2_with fail
            go_roundw
            case rel => exact ⟨k + 1, by go_num, by omega, HREST.out, trivial⟩
            case measure => simp [intOf]; omega
          · have i0 : ¬ 97 ≤ (x : Int) := by omega
            have i1 : 48 ≤ (x : Int) := by omega
            have i2 : (x : Int) ≤ 57 := by omega
            have hok : okByte x = true := by unfold okByte; simp; omega
            have hrest : ((bytesS s).drop (k + 1)).all okByte = r := by have h := HALL.out; rw [hok, Bool.true_and] at h; exact h
            have HREST := Lib.hid hrest
            clear hrest hok hx
            go_wp2_with fail
            go_roundw
            case rel => exact ⟨k + 1, by go_num, by omega, HREST.out, trivial⟩
            case measure => simp [intOf]; omega
          · have i0 : ¬ 97 ≤ (x : Int) := by omega
            have i1 : 48 ≤ (x : Int) := by omega
            have i2 : ¬ (x : Int) ≤ 57 := by omega
            have i9 : ((x : Int) != 45) = true := by rw [bne_iff_ne]; omega
            have hok : okByte x = false := by unfold okByte; simp; omega
            have hrr : r = false := by have h := HALL.out; rw [hok, Bool.false_and] at h; exact h.symm
            subst hrr
            clear hok hx HALL
            go_wp2_with fail
            go_ret
            exact ⟨rfl, HB.out⟩
          · have i0 : 97 ≤ (x : Int) := by omega
            have i1 : (x : Int) ≤ 122 := by omega
            have i2 : 48 ≤ (x : Int) := by omega
            have i3 : ¬ (x : Int) ≤ 57 := by omega
            have hok : okByte x = true := by unfold okByte; simp; omega
            have hrest : ((bytesS s).drop (k + 1)).all okByte = r := by have h := HALL.out; rw [hok, Bool.true_and] at h; exact h
            have HREST := Lib.hid hrest
            clear hrest hok hx
            go_wp2_with fail
            go_roundw
            case rel => exact ⟨k + 1, by go_num, by omega, HREST.out, trivial⟩
            case measure => simp [intOf]; omega
          · have i0 : 97 ≤ (x : Int) := by omega
            have i1 : ¬ (x : Int) ≤ 122 := by omega
            have i2 : 48 ≤ (x : Int) := by omega
            have i3 : ¬ (x : Int) ≤ 57 := by omega
            have i9 : ((x : Int) != 45) = true := by rw [bne_iff_ne]; omega
            have hok : okByte x = false := by unfold okByte; simp; omega
            have hrr : r = false := by have h := HALL.out; rw [hok, Bool.false_and] at h; exact h.symm
            subst hrr
            clear hok hx HALL
            go_wp2_with fail
            go_ret
            exact ⟨rfl, HB.out⟩
        · obtain rfl : k = s.size := by omega
          rw [List.drop_of_length_le (by rw [HBL.out]; exact Nat.le_refl _), List.all_nil] at hall
          subst hall
          go_wp2_with fail
          go_ret
          exact ⟨rfl, HB.out⟩

/-- A disk's block. -/
def DB (W : World) (db mb : Nat) (room used made : Int) (fails : Bool) : Prop :=
  W.heap[db]? = some (.cells #[.map (some mb), .int .i64 room, .int .i64 used, .int .i64 made, .bool fails] 64 (0, 0))
theorem DB.cells {W : World} {db mb : Nat} {room used made : Int} {fails : Bool} (h : DB W db mb room used made fails) :
    (W.cell? ⟨db, 0, none⟩ = some (.map (some mb)) ∧ W.cell? ⟨db, 1, none⟩ = some (.int .i64 room) ∧ W.cell? ⟨db, 2, none⟩ = some (.int .i64 used) ∧ W.cell? ⟨db, 3, none⟩ = some (.int .i64 made) ∧ W.cell? ⟨db, 4, none⟩ = some (.bool fails)) ∧
      ∀ i, W.frozen? ⟨db, i, none⟩ = false := by
  unfold DB at h
  refine ⟨⟨?_, ?_, ?_, ?_, ?_⟩, fun i => ?_⟩ <;> simp [World.cell?, World.frozen?, h]
theorem DB.lt {W : World} {db mb : Nat} {room used made : Int} {fails : Bool} (h : DB W db mb room used made fails) : db < W.heap.size := (Array.getElem?_eq_some_iff.1 h).1
theorem DB.below {W W' : World} {db mb : Nat} {room used made : Int} {fails : Bool} (h : DB W db mb room used made fails) (hB : Below W.heap.size W W') : DB W' db mb room used made fails := (hB.block db h.lt).trans h

/-- What is refused whatever the file is. -/
def refN (fails : Bool) (s : ByteArray) (k : Int) : Nat := if fails then 16 else if rightB s = false ∨ k < 0 then 1 else 0

def ErrB (w : World) (n : Nat) (e : Ending) (W : World) : Prop := e = .returned (.int .i64 (n : Nat)) ∧ Below w.heap.size w W

set_option maxRecDepth 100000 in
set_option maxHeartbeats 2000000 in
theorem refusal_calls (db mb : Nat) (room used made : Int) (fails : Bool) (s : ByteArray) (hs63 : s.size ≤ 9223372036854775807) (k : Int) (w : World) (h : DB w db mb room used made fails) :
    Calls Try.prog 38 #[.pointer (some ⟨db, 0, none⟩), .string s, .int .i64 k] w (ErrB w (refN fails s k)) := by
  obtain ⟨⟨_, _, _, _, c4⟩, _⟩ := h.cells
  have CN := Lib.hid (rightName_calls s w hs63)
  obtain ⟨n, hn⟩ : ∃ n, refN fails s k = n := ⟨_, rfl⟩
  rw [hn]
  have HN := Lib.hid hn
  clear hn
  cases fails with
  | true =>
    have : n = 16 := by rw [← HN.out]; rfl
    subst this
    clear HN
    go_enter Try.func38, Try.ntmps38
    go_wp2_with fail
    go_ret
    exact ⟨rfl, Below.refl _ _⟩
  | false =>
    have hn : (if rightB s = false ∨ k < 0 then 1 else 0) = n := by rw [← HN.out]; rfl
    have HN2 := Lib.hid hn
    clear hn HN
    obtain ⟨r, hr⟩ : ∃ r, rightB s = r := ⟨_, rfl⟩
    rw [hr] at CN HN2
    clear hr
    go_enter Try.func38, Try.ntmps38
    go_wp2_with fail
    refine CN.out.mono ?_
    clear CN
    rintro e W ⟨rfl, hB⟩
    have HB := Lib.hid hB
    clear hB
    cases r with
    | false =>
      have : n = 1 := by rw [← HN2.out]; rfl
      subst this
      clear HN2
      go_wp2_with fail
      go_ret
      exact ⟨rfl, HB.out⟩
    | true =>
      by_cases hk : k < 0
      · have : n = 1 := by rw [← HN2.out]; simp [hk]
        subst this
        clear HN2
        go_wp2_with fail
        go_ret
        exact ⟨rfl, HB.out⟩
      · have : n = 0 := by rw [← HN2.out]; simp [hk]
        subst this
        have hkI : 0 ≤ k := by omega
        clear HN2 hk
        go_wp2_with fail
        go_ret
        exact ⟨rfl, HB.out⟩

set_option maxRecDepth 100000 in
theorem refusal_nil (s : ByteArray) (k : Int) (w : World) : Calls Try.prog 38 #[.pointer none, .string s, .int .i64 k] w (ErrB w 9) := by
  go_enter Try.func38, Try.ntmps38
  go_wp2_with fail
  go_ret
  exact ⟨rfl, Below.refl _ _⟩

end Go.Proofs.Ytnjjjalenhbicaa.Disk

/-
  Contracts of disk's New and known.
-/
namespace Go.Proofs.Ytnjjjalenhbicaa.Disk
open Go Go.RowKit Go.Proofs.Ytnjjjalenhbicaa.Law

/-- A file's block. -/
def FB (W : World) (fb : Nat) (nt : Bool) (nv : Value) (st : Bool) (sv : Value) (sh : Bool) (cv : Value) : Prop :=
  W.heap[fb]? = some (.cells #[.bool nt, nv, .bool st, sv, .bool sh, cv] 78 (0, 0))
theorem FB.cells {W : World} {fb : Nat} {nt st sh : Bool} {nv sv cv : Value} (h : FB W fb nt nv st sv sh cv) :
    (W.cell? ⟨fb, 0, none⟩ = some (.bool nt) ∧ W.cell? ⟨fb, 1, none⟩ = some nv ∧ W.cell? ⟨fb, 2, none⟩ = some (.bool st) ∧ W.cell? ⟨fb, 3, none⟩ = some sv ∧ W.cell? ⟨fb, 4, none⟩ = some (.bool sh) ∧ W.cell? ⟨fb, 5, none⟩ = some cv) ∧
      ∀ i, W.frozen? ⟨fb, i, none⟩ = false := by
  unfold FB at h
  refine ⟨⟨?_, ?_, ?_, ?_, ?_, ?_⟩, fun i => ?_⟩ <;> simp [World.cell?, World.frozen?, h]
theorem FB.lt {W : World} {fb : Nat} {nt st sh : Bool} {nv sv cv : Value} (h : FB W fb nt nv st sv sh cv) : fb < W.heap.size := (Array.getElem?_eq_some_iff.1 h).1
theorem FB.below {W W' : World} {fb : Nat} {nt st sh : Bool} {nv sv cv : Value} (h : FB W fb nt nv st sv sh cv) (hB : Below W.heap.size W W') : FB W' fb nt nv st sv sh cv := (hB.block fb h.lt).trans h

abbrev fileV (nt : Bool) (nv : Value) (st : Bool) (sv : Value) (sh : Bool) (cv : Value) : Value := .agg #[.bool nt, nv, .bool st, sv, .bool sh, cv]

/-- What New leaves. -/
def Made (w : World) (room : Int) (e : Ending) (W : World) : Prop :=
  ∃ db mb, e = .returned (.tuple #[.pointer (some ⟨db, 0, none⟩), .int .i64 0]) ∧ w.heap.size ≤ mb ∧ w.heap.size ≤ db ∧ mb ≠ db ∧ DB W db mb room 0 0 false ∧ MapP Try.prog 9 W mb 0 (fun _ => none) ∧ Below w.heap.size w W

set_option maxRecDepth 100000 in
set_option maxHeartbeats 2000000 in
theorem new_calls (room : Int) (w : World) (h : 0 ≤ room ∧ room ≤ 1073741824) : Calls Try.prog 9 #[.int .i64 room] w (Made w room) := by
  have hr : decide (0 ≤ room ∧ room ≤ 1073741824) = true := by simp [h]
  have cR := rightRoom_calls room w
  rw [hr] at cR
  have CR := Lib.hid cR
  have hmm := @run_makeMap Try.prog
  have hm := MapP.made Try.prog 9 w
  have HM := Lib.hid hm
  clear cR hr hm
  go_enter Try.func9, Try.ntmps9
  go_wp2_with fail
  refine CR.out.mono ?_
  rintro e W ⟨rfl, rfl⟩
  go_wp2_with fail
  go_ret2
  refine ⟨w.heap.size + 1, w.heap.size, rfl, Nat.le_refl _, Nat.le_succ _, by omega, ?_, ?_, ((Below.refl _ _).alloc (Nat.le_refl _) _).alloc (by simp) _⟩
  · have := heap_alloc_new (w.alloc (.map #[] 0)) (.cells #[.map (some w.heap.size), .int .i64 room, .int .i64 0, .int .i64 0, .bool false] 64)
    rw [World.size_alloc] at this
    exact this
  · exact HM.out.at (Below.heap_alloc _ _ _ (by simp))

set_option maxRecDepth 100000 in
theorem new_refused (room : Int) (w : World) (h : ¬ (0 ≤ room ∧ room ≤ 1073741824)) : Calls Try.prog 9 #[.int .i64 room] w fun e W => e = .returned (.tuple #[.pointer none, .int .i64 1]) ∧ w = W := by
  have hr : decide (0 ≤ room ∧ room ≤ 1073741824) = false := by simpa using h
  have cR := rightRoom_calls room w
  rw [hr] at cR
  have CR := Lib.hid cR
  clear cR hr h
  go_enter Try.func9, Try.ntmps9
  go_wp2_with fail
  refine CR.out.mono ?_
  rintro e W ⟨rfl, rfl⟩
  go_wp2_with fail
  go_ret2
  exact ⟨rfl, rfl⟩

theorem zero_ptr (w : World) : (zeroValue 73).run Try.prog w = .ok (.pointer none) w := by kernel_rfl

/-- What known answers. -/
def KnownOut (w : World) (v : Value) (e : Ending) (W : World) : Prop := e = .returned v ∧ Below w.heap.size w W

set_option maxRecDepth 100000 in
set_option maxHeartbeats 2000000 in
theorem known_some (db mb : Nat) (room used made : Int) (fails : Bool) (n : Nat) (F : ByteArray → Option Nat) (s : ByteArray) (hs : Short s) (w : World) (h : DB w db mb room used made fails) (hm : MapP Try.prog 9 w mb n F)
    (fb : Nat) (hF : F s = some fb) (nt st sh : Bool) (na sa ca : Option Addr) (nl nc sl sc cl cc : Nat) (hf : FB w fb nt (.slice na nl nc) st (.slice sa sl sc) sh (.slice ca cl cc)) :
    Calls Try.prog 40 #[.pointer (some ⟨db, 0, none⟩), .string s] w (KnownOut w (fileV nt (.slice na nl nc) st (.slice sa sl sc) sh (.slice ca cl cc))) := by
  have hdb := h.lt
  have hfb := hf.lt
  obtain ⟨⟨d0, _, _, _, _⟩, _⟩ := h.cells
  obtain ⟨⟨f0, f1, f2, f3, f4, f5⟩, _⟩ := hf.cells
  have hl : ∀ o, (Instr.lookup 62 (.map (some mb)) (.string s) false).run Try.prog (w.alloc o) = .ok (.pointer (some ⟨fb, 0, none⟩)) (w.alloc o) := fun o => by
    have := (hm.at (W' := w.alloc o) (Below.heap_alloc _ _ _ hm.lt)).look Try.underlying9 Try.underlying62 (zero_ptr _) hs
    rwa [hF] at this
  have HL := Lib.hid hl
  clear hl h hm hf hF
  go_enter Try.func40, Try.ntmps40
  go_wp2_with (first
    | (refine wpList_lookup_ran (o := ⟨some 13, _, _, _, _, _⟩) rfl _ _ _ _ rfl rfl rfl (HL.out _) ?_)
    | (refine wpList_lookup_ran (o := ⟨some 22, _, _, _, _, _⟩) rfl _ _ _ _ rfl rfl rfl (HL.out _) ?_))
  refine bodyPost_ret (v := fileV nt (.slice na nl nc) st (.slice sa sl sc) sh (.slice ca cl cc)) (by simp [results, Try.results40, go_sem]) rfl ⟨rfl, ?_⟩
  exact (Below.refl _ _).alloc (Nat.le_refl _) _

/-- The file that isn't there. -/
abbrev noFile : Value := fileV false (.slice none 0 0) false (.slice none 0 0) false (.slice none 0 0)

set_option maxRecDepth 100000 in
set_option maxHeartbeats 2000000 in
theorem known_none (db mb : Nat) (room used made : Int) (fails : Bool) (n : Nat) (F : ByteArray → Option Nat) (s : ByteArray) (hs : Short s) (w : World) (h : DB w db mb room used made fails) (hm : MapP Try.prog 9 w mb n F)
    (hF : F s = none) :
    Calls Try.prog 40 #[.pointer (some ⟨db, 0, none⟩), .string s] w (KnownOut w noFile) := by
  have hdb := h.lt
  obtain ⟨⟨d0, _, _, _, _⟩, _⟩ := h.cells
  have hl : ∀ o, (Instr.lookup 62 (.map (some mb)) (.string s) false).run Try.prog (w.alloc o) = .ok (.pointer none) (w.alloc o) := fun o => by
    have := (hm.at (W' := w.alloc o) (Below.heap_alloc _ _ _ hm.lt)).look Try.underlying9 Try.underlying62 (zero_ptr _) hs
    rwa [hF] at this
  have HL := Lib.hid hl
  clear hl h hm hF
  go_enter Try.func40, Try.ntmps40
  go_wp2_with (first
    | (refine wpList_lookup_ran (o := ⟨some 13, _, _, _, _, _⟩) rfl _ _ _ _ rfl rfl rfl (HL.out _) ?_)
    | (refine wpList_lookup_ran (o := ⟨some 22, _, _, _, _, _⟩) rfl _ _ _ _ rfl rfl rfl (HL.out _) ?_))
  refine bodyPost_ret (v := noFile) (by simp [results, Try.results40, go_sem]) rfl ⟨rfl, ?_⟩
  exact ((Below.refl _ _).alloc (Nat.le_refl _) _)

set_option maxRecDepth 100000 in
theorem known_nil (s : ByteArray) (w : World) :
    Calls Try.prog 40 #[.pointer none, .string s] w (KnownOut w noFile) := by
  go_enter Try.func40, Try.ntmps40
  go_wp2
  refine bodyPost_ret (v := noFile) (by simp [results, Try.results40, go_sem]) rfl ⟨rfl, ?_⟩
  exact ((Below.refl _ _).alloc (Nat.le_refl _) _)

end Go.Proofs.Ytnjjjalenhbicaa.Disk
