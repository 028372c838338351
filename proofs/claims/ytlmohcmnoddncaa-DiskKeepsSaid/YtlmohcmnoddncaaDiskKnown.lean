/-
  Contracts of disk's New and known.
-/
import Derived.Test.YtlmohcmnoddncaaDiskName
namespace Go.Proofs.Ytlmohcmnoddncaa.Disk
open Go Go.RowKit Go.Proofs.Ytlmohcmnoddncaa.Law

/-- A file's block. -/
def FB (W : World) (fb : Nat) (nt : Bool) (nv : Value) (st : Bool) (sv : Value) (sh : Bool) (cv : Value) : Prop :=
  W.heap[fb]? = some (.cells #[.bool nt, nv, .bool st, sv, .bool sh, cv] 78 (0, 0))
theorem FB.cells {W : World} {fb : Nat} {nt st sh : Bool} {nv sv cv : Value} (h : FB W fb nt nv st sv sh cv) :
    (W.cell? ⟨fb, 0, none⟩ = some (.bool nt) ∧ W.cell? ⟨fb, 1, none⟩ = some nv ∧ W.cell? ⟨fb, 2, none⟩ = some (.bool st) ∧ W.cell? ⟨fb, 3, none⟩ = some sv ∧ W.cell? ⟨fb, 4, none⟩ = some (.bool sh) ∧ W.cell? ⟨fb, 5, none⟩ = some cv) ∧
      ∀ i, W.frozen? ⟨fb, i, none⟩ = false := by
  unfold FB at h
  refine ⟨⟨?_, ?_, ?_, ?_, ?_, ?_⟩, fun i => ?_⟩ <;> simp [World.cell?, World.frozen?, h]
theorem FB.lt {W : World} {fb : Nat} {nt st sh : Bool} {nv sv cv : Value} (h : FB W fb nt nv st sv sh cv) : fb < W.heap.size := (Array.getElem?_eq_some_iff.1 h).1
theorem FB.below {W W' : World} {fb : Nat} {nt st sh : Bool} {nv sv cv : Value} (h : FB W fb nt nv st sv sh cv) (hB : Below W.heap.size W W') : FB W' fb nt nv st sv sh cv := (hB.block fb h.lt).trans h

abbrev fileV (nt : Bool) (nv : Value) (st : Bool) (sv : Value) (sh : Bool) (cv : Value) : Value := .agg #[.bool nt, nv, .bool st, sv, .bool sh, cv]

/-- What New leaves. -/
def Made (w : World) (room : Int) (e : Ending) (W : World) : Prop :=
  ∃ db mb, e = .returned (.tuple #[.pointer (some ⟨db, 0, none⟩), .int .i64 0]) ∧ w.heap.size ≤ mb ∧ w.heap.size ≤ db ∧ mb ≠ db ∧ DB W db mb room 0 0 false ∧ MapP Try.prog 9 W mb 0 (fun _ => none) ∧ Below w.heap.size w W

set_option maxRecDepth 100000 in
set_option maxHeartbeats 2000000 in
theorem new_calls (room : Int) (w : World) (h : 0 ≤ room ∧ room ≤ 1073741824) : Calls Try.prog 9 #[.int .i64 room] w (Made w room) := by
  have hr : decide (0 ≤ room ∧ room ≤ 1073741824) = true := by simp [h]
  have cR := rightRoom_calls room w
  rw [hr] at cR
  have CR := Lib.hid cR
  have hmm := @run_makeMap Try.prog
  have hm := MapP.made Try.prog 9 w
  have HM := Lib.hid hm
  clear cR hr hm
  go_enter Try.func9, Try.ntmps9
  go_wp2_with fail
  refine CR.out.mono ?_
  rintro e W ⟨rfl, rfl⟩
  go_wp2_with fail
  go_ret2
  refine ⟨w.heap.size + 1, w.heap.size, rfl, Nat.le_refl _, Nat.le_succ _, by omega, ?_, ?_, ((Below.refl _ _).alloc (Nat.le_refl _) _).alloc (by simp) _⟩
  · have := heap_alloc_new (w.alloc (.map #[] 0)) (.cells #[.map (some w.heap.size), .int .i64 room, .int .i64 0, .int .i64 0, .bool false] 64)
    rw [World.size_alloc] at this
    exact this
  · exact HM.out.at (Below.heap_alloc _ _ _ (by simp))

set_option maxRecDepth 100000 in
theorem new_refused (room : Int) (w : World) (h : ¬ (0 ≤ room ∧ room ≤ 1073741824)) : Calls Try.prog 9 #[.int .i64 room] w fun e W => e = .returned (.tuple #[.pointer none, .int .i64 1]) ∧ w = W := by
  have hr : decide (0 ≤ room ∧ room ≤ 1073741824) = false := by simpa using h
  have cR := rightRoom_calls room w
  rw [hr] at cR
  have CR := Lib.hid cR
  clear cR hr h
  go_enter Try.func9, Try.ntmps9
  go_wp2_with fail
  refine CR.out.mono ?_
  rintro e W ⟨rfl, rfl⟩
  go_wp2_with fail
  go_ret2
  exact ⟨rfl, rfl⟩

theorem zero_ptr (w : World) : (zeroValue 73).run Try.prog w = .ok (.pointer none) w := by kernel_rfl

/-- What known answers. -/
def KnownOut (w : World) (v : Value) (e : Ending) (W : World) : Prop := e = .returned v ∧ Below w.heap.size w W

set_option maxRecDepth 100000 in
set_option maxHeartbeats 2000000 in
theorem known_some (db mb : Nat) (room used made : Int) (fails : Bool) (n : Nat) (F : ByteArray → Option Nat) (s : ByteArray) (hs : Short s) (w : World) (h : DB w db mb room used made fails) (hm : MapP Try.prog 9 w mb n F)
    (fb : Nat) (hF : F s = some fb) (nt st sh : Bool) (na sa ca : Option Addr) (nl nc sl sc cl cc : Nat) (hf : FB w fb nt (.slice na nl nc) st (.slice sa sl sc) sh (.slice ca cl cc)) :
    Calls Try.prog 40 #[.pointer (some ⟨db, 0, none⟩), .string s] w (KnownOut w (fileV nt (.slice na nl nc) st (.slice sa sl sc) sh (.slice ca cl cc))) := by
  have hdb := h.lt
  have hfb := hf.lt
  obtain ⟨⟨d0, _, _, _, _⟩, _⟩ := h.cells
  obtain ⟨⟨f0, f1, f2, f3, f4, f5⟩, _⟩ := hf.cells
  have hl : ∀ o, (Instr.lookup 62 (.map (some mb)) (.string s) false).run Try.prog (w.alloc o) = .ok (.pointer (some ⟨fb, 0, none⟩)) (w.alloc o) := fun o => by
    have := (hm.at (W' := w.alloc o) (Below.heap_alloc _ _ _ hm.lt)).look Try.underlying9 Try.underlying62 (zero_ptr _) hs
    rwa [hF] at this
  have HL := Lib.hid hl
  clear hl h hm hf hF
  go_enter Try.func40, Try.ntmps40
  go_wp2_with (first
    | (refine wpList_lookup_ran (o := ⟨some 13, _, _, _, _, _⟩) rfl _ _ _ _ rfl rfl rfl (HL.out _) ?_)
    | (refine wpList_lookup_ran (o := ⟨some 22, _, _, _, _, _⟩) rfl _ _ _ _ rfl rfl rfl (HL.out _) ?_))
  refine bodyPost_ret (v := fileV nt (.slice na nl nc) st (.slice sa sl sc) sh (.slice ca cl cc)) (by simp [results, Try.results40, go_sem]) rfl ⟨rfl, ?_⟩
  exact (Below.refl _ _).alloc (Nat.le_refl _) _

/-- The file that isn't there. -/
abbrev noFile : Value := fileV false (.slice none 0 0) false (.slice none 0 0) false (.slice none 0 0)

set_option maxRecDepth 100000 in
set_option maxHeartbeats 2000000 in
theorem known_none (db mb : Nat) (room used made : Int) (fails : Bool) (n : Nat) (F : ByteArray → Option Nat) (s : ByteArray) (hs : Short s) (w : World) (h : DB w db mb room used made fails) (hm : MapP Try.prog 9 w mb n F)
    (hF : F s = none) :
    Calls Try.prog 40 #[.pointer (some ⟨db, 0, none⟩), .string s] w (KnownOut w noFile) := by
  have hdb := h.lt
  obtain ⟨⟨d0, _, _, _, _⟩, _⟩ := h.cells
  have hl : ∀ o, (Instr.lookup 62 (.map (some mb)) (.string s) false).run Try.prog (w.alloc o) = .ok (.pointer none) (w.alloc o) := fun o => by
    have := (hm.at (W' := w.alloc o) (Below.heap_alloc _ _ _ hm.lt)).look Try.underlying9 Try.underlying62 (zero_ptr _) hs
    rwa [hF] at this
  have HL := Lib.hid hl
  clear hl h hm hF
  go_enter Try.func40, Try.ntmps40
  go_wp2_with (first
    | (refine wpList_lookup_ran (o := ⟨some 13, _, _, _, _, _⟩) rfl _ _ _ _ rfl rfl rfl (HL.out _) ?_)
    | (refine wpList_lookup_ran (o := ⟨some 22, _, _, _, _, _⟩) rfl _ _ _ _ rfl rfl rfl (HL.out _) ?_))
  refine bodyPost_ret (v := noFile) (by simp [results, Try.results40, go_sem]) rfl ⟨rfl, ?_⟩
  exact ((Below.refl _ _).alloc (Nat.le_refl _) _)

set_option maxRecDepth 100000 in
theorem known_nil (s : ByteArray) (w : World) :
    Calls Try.prog 40 #[.pointer none, .string s] w (KnownOut w noFile) := by
  go_enter Try.func40, Try.ntmps40
  go_wp2
  refine bodyPost_ret (v := noFile) (by simp [results, Try.results40, go_sem]) rfl ⟨rfl, ?_⟩
  exact ((Below.refl _ _).alloc (Nat.le_refl _) _)

end Go.Proofs.Ytlmohcmnoddncaa.Disk
