/-
  Put together out of texts of one chain: what they hold stands ahead of each.
-/
import Derived.Test.YtmegiilkcidanaaGDiskCopies10
import Derived.Test.YtmegiilkcidanaaGDiskCopies06
import Derived.Test.YtmegiilkcidanaaGDiskCopies14
import Derived.Test.YtmegiilkcidanaaGDiskCopies12
import Derived.Test.YtmegiilkcidanaaGDiskCopies13
/-
  The document's disk that nothing was done to: what each call answers, and that nothing but its own block has turned.
-/
namespace Go.Proofs.Ytmegiilkcidanaa.Disk
open Go Go.RowKit Go.Sort Go.Lib Go.Proofs.Ytmegiilkcidanaa.Law

/-- A new one of the document's disks. -/
def RefZ (W : World) (q : Nat) : Prop := RD W q 0 false (.slice none 0 0) (.slice none 0 0) (.slice none 0 0)
theorem RefZ.disk {W : World} {q : Nat} (h : RefZ W q) : RefD W q q 0 false [] [] [] := ⟨Nat.le_refl _, _, _, _, h, FilesAt.nil _ _, FilesAt.nil _ _, ChsAt.nil _ _⟩
theorem RefZ.nil {W : World} {q : Nat} (h : RefZ W q) : ∀ v, W.cell? ⟨q, 4, none⟩ = some v → ∀ k, v.ownBlock ≠ some k := fun v hv k e => by
  have := h.cells.1.2.2.2.2
  rw [this] at hv
  obtain rfl := Option.some.inj hv
  cases e
/-- Nothing but the block q has turned. -/
def Else (q : Nat) (w W : World) : Prop := Below q w W ∧ ∀ k, k < w.heap.size → k ≠ q → W.heap[k]? = w.heap[k]?
theorem RefZ.else {w W : World} {q : Nat} (h : RefZ w q) (hK : RefK q q w W) : Else q w W := ⟨hK.low, fun k hk hkq => hK.same k hk hkq fun v hv => h.nil v hv k⟩
def FreshO (n q : Nat) (w : World) (e : Ending) (W : World) : Prop := e = .returned (.int .i64 (n : Nat)) ∧ Else q w W
theorem RefZ.fresh {w : World} {q n : Nat} (h : RefZ w q) {room : Int} {fails : Bool} {now safe : List RF} {chs : List RC} {e : Ending} {W : World} (hO : RefO w q q n room fails now safe chs e W) : FreshO n q w e W := ⟨hO.1, h.else hO.2.2⟩

theorem freshWrite_calls (s : ByteArray) (hs63 : s.size ≤ 9223372036854775807) (k : Int) (bs : List Nat) (hbs : bs.length ≤ 140737488351232) : ∃ n : Nat, ∀ (w : World) (q : Nat) (dv : Value) (n₀ : Nat), RefZ w q → Bytes n₀ w dv bs →
    Calls Try.prog 30 #[.pointer (some ⟨q, 0, none⟩), .string s, .int .i64 k, dv] w (FreshO n q w) := by
  have hgl : (getB [] s).length = 0 := rfl
  have hul : usedF [] = 0 := rfl
  by_cases hn : refN false s k = 0
  · obtain ⟨_, _, hk0⟩ := refN_zero hn
    obtain ⟨k, rfl⟩ : ∃ n : Nat, k = (n : Int) := ⟨k.toNat, by omega⟩
    by_cases hk : k = 0
    · subst hk
      by_cases hl : bs.length = 0
      · have hb0 : bs = [] := List.length_eq_zero_iff.1 hl
        subst hb0
        refine ⟨0, fun w q dv n₀ hZ hD => ?_⟩
        obtain ⟨A, c, rfl⟩ := hD.form
        have hD2 : Bytes q w (.slice A 0 c) [] := by
          obtain ⟨A2, c2, h1, h2, h3, h4, h5⟩ := hD
          exact ⟨A2, c2, h1, h2, h3, h4, fun hp => absurd hp (by simp)⟩
        refine (refWrite_ok w q q (Nat.le_of_lt hZ.lt) 0 false [] [] (by simp) (by decide) [] (by simp) hZ.disk s hs63 0 hn (by simp) (by simp [hgl]) A 0 c [] rfl (by omega) hD2 (fun hp => by simp [hgl] at hp)).mono ?_
        rintro e W ⟨ov, xv, _, _, hO⟩
        exact hZ.fresh hO
      · refine ⟨6, fun w q dv n₀ hZ hD => ?_⟩
        obtain ⟨A, c, rfl⟩ := hD.form
        exact (refWrite_full w q q 0 (by omega) false [] [] (by simp) (by decide) [] hZ.disk s hs63 0 hn (by omega) (by simp [hgl]) A bs.length c (by omega) (by rw [hgl]; omega) (by rw [hgl, hul]; omega)).mono fun e W hO => hZ.fresh hO
    · exact ⟨8, fun w q dv n₀ hZ hD => (refWrite_range w q q 0 false [] [] (by simp) [] hZ.disk s hs63 (k : Nat) dv hn (by rw [hgl]; omega)).mono fun e W hO => hZ.fresh hO⟩
  · exact ⟨_, fun w q dv n₀ hZ hD => (refWrite_no _ hn w q q 0 false [] [] [] hZ.disk s hs63 k dv rfl).mono fun e W hO => hZ.fresh hO⟩

theorem freshCut_calls (s : ByteArray) (hs63 : s.size ≤ 9223372036854775807) (k : Int) : ∃ n : Nat, ∀ (w : World) (q : Nat), RefZ w q →
    Calls Try.prog 31 #[.pointer (some ⟨q, 0, none⟩), .string s, .int .i64 k] w (FreshO n q w) := by
  by_cases hn : refN false s k = 0
  · exact ⟨7, fun w q hZ => (refCut_none w q q 0 false [] [] (by simp) [] hZ.disk s hs63 k hn rfl).mono fun e W hO => hZ.fresh hO⟩
  · exact ⟨_, fun w q hZ => (refCut_no _ hn w q q 0 false [] [] [] hZ.disk s hs63 k rfl).mono fun e W hO => hZ.fresh hO⟩

theorem freshRemove_calls (s : ByteArray) (hs63 : s.size ≤ 9223372036854775807) : ∃ n : Nat, ∀ (w : World) (q : Nat), RefZ w q →
    Calls Try.prog 32 #[.pointer (some ⟨q, 0, none⟩), .string s] w (FreshO n q w) := by
  by_cases hn : refN false s 0 = 0
  · exact ⟨7, fun w q hZ => (refRemove_none w q q 0 false [] [] (by simp) [] hZ.disk s hs63 hn rfl).mono fun e W hO => hZ.fresh hO⟩
  · exact ⟨_, fun w q hZ => (refRemove_no _ hn w q q 0 false [] [] [] hZ.disk s hs63 rfl).mono fun e W hO => hZ.fresh hO⟩

theorem freshSync_calls (s : ByteArray) (hs63 : s.size ≤ 9223372036854775807) : ∃ n : Nat, ∀ (w : World) (q : Nat), RefZ w q →
    Calls Try.prog 33 #[.pointer (some ⟨q, 0, none⟩), .string s] w (FreshO n q w) := by
  by_cases hn : refN false s 0 = 0
  · exact ⟨_, fun w q hZ => (refSync_ok w q q (Nat.le_of_lt hZ.lt) 0 false [] [] (by simp) (by simp) [] (by simp) hZ.disk s hs63 hn (fun p hp => by cases hp)).mono fun e W hO => hZ.fresh hO⟩
  · exact ⟨_, fun w q hZ => (refSync_no _ hn w q q 0 false [] [] [] hZ.disk s hs63 rfl).mono fun e W hO => hZ.fresh hO⟩

set_option maxRecDepth 100000 in
set_option maxHeartbeats 2000000 in
theorem freshCrash_calls (w : World) (q : Nat) (h : RefZ w q) (pA : Option Addr) (pl pc : Nat) :
    Calls Try.prog 34 #[.pointer (some ⟨q, 0, none⟩), .slice pA pl pc] w fun e W => e = .returned (.tuple #[]) ∧ Else q w W := by
  obtain ⟨⟨_, c1, c2, c3, c4⟩, hz⟩ := RD.cells h
  have hz1 := hz 1
  have hz2 := hz 2
  have hz4 := hz 4
  have hlt := RD.lt h
  have k1 := rd_set2 h (.slice none 0 0)
  have k2 := rd_set4 k1 (.slice none 0 0)
  have l1 := (RefK.refl (Nat.le_refl q) (RD.lt h)).put h 2 (.slice none 0 0) (fun g hg => by cases hg)
  have l2 := l1.put k1 4 (.slice none 0 0) (fun g hg => by cases hg)
  have l3 := l2.put k2 1 (.bool false) (fun g hg => by cases hg)
  have HB := Lib.hid (h.else l3)
  clear hz k1 k2 l1 l2 l3 h
  go_enter Try.func34, Try.ntmps34
  go_wp2_with fail
  go_loopw [4] (fun i wr => i = .int .i64 0 ∧ wr = w) (fun i _ => 0)
  case atStart => exact ⟨rfl, rfl⟩
  case round =>
    obtain ⟨rfl, rfl⟩ := hrel
    go_wp2_with fail
    go_end0
    exact ⟨rfl, HB.out⟩

end Go.Proofs.Ytmegiilkcidanaa.Disk

/-
  A step that is done to a disk and to a new one of the document's.
-/
namespace Go.Proofs.Ytmegiilkcidanaa.Disk
open Go Go.RowKit Go.Sort Go.Lib Go.Proofs.Ytmegiilkcidanaa.Law

theorem Dx.dk {Fr : Nat → Prop} {w W : World} {db : Nat} {D : DS} (h : Dx Fr w db D W) : Dk w db D W := by
  obtain ⟨O, h1, h2, h3, h4, _⟩ := h
  exact ⟨O, h1, h2, h3, h4⟩
theorem Dx.cut {Fr : Nat → Prop} {w W : World} {db : Nat} {D : DS} (h : Dx Fr w db D W) (hmade : D.made ≤ 4294967296) (s : ByteArray) (hs63 : s.size ≤ 9223372036854775807) (k : Int) (hk63 : k ≤ 9223372036854775807) :
    Calls Try.prog 24 #[.pointer (some ⟨db, 0, none⟩), .string s, .int .i64 k] W fun e W' => e = .returned (.int .i64 (D.cutN s k : Nat)) ∧ Dx Fr w db (D.cut s k) W' ∧ SameOn Fr W W' := by
  obtain ⟨O, h1, h2, h3, h4, h5⟩ := h
  refine (cutD_calls W O db D h1 h4 hmade s hs63 k hk63).mono ?_
  rintro e W' ⟨rfl, O', h6, h7⟩
  exact ⟨rfl, Dx.past h2 h3 h5 h7 h6 (h4.cut s k)⟩
theorem Dx.remove {Fr : Nat → Prop} {w W : World} {db : Nat} {D : DS} (h : Dx Fr w db D W) (hmade : D.made ≤ 4294967296) (s : ByteArray) (hs63 : s.size ≤ 9223372036854775807) :
    Calls Try.prog 25 #[.pointer (some ⟨db, 0, none⟩), .string s] W fun e W' => e = .returned (.int .i64 (D.removeN s : Nat)) ∧ Dx Fr w db (D.remove s) W' ∧ SameOn Fr W W' := by
  obtain ⟨O, h1, h2, h3, h4, h5⟩ := h
  refine (removeD_calls W O db D h1 h4 hmade s hs63).mono ?_
  rintro e W' ⟨rfl, O', h6, h7⟩
  exact ⟨rfl, Dx.past h2 h3 h5 h7 h6 (h4.remove s)⟩
theorem Dx.fail {Fr : Nat → Prop} {w W : World} {db : Nat} {D : DS} (h : Dx Fr w db D W) (b : Bool) :
    Calls Try.prog 12 #[.pointer (some ⟨db, 0, none⟩), .bool b] W fun e W' => e = .returned (.tuple #[]) ∧ Dx Fr w db (D.fail b) W' ∧ SameOn Fr W W' := by
  obtain ⟨O, h1, h2, h3, h4, h5⟩ := h
  refine (failD_calls W O db D h1 b).mono ?_
  rintro e W' ⟨rfl, h6, h7⟩
  exact ⟨rfl, Dx.past h2 h3 h5 h7 h6 (h4.fail b)⟩
theorem Dx.limit {Fr : Nat → Prop} {w W : World} {db : Nat} {D : DS} (h : Dx Fr w db D W) (r : Int) :
    Calls Try.prog 26 #[.pointer (some ⟨db, 0, none⟩), .int .i64 r] W fun e W' => e = .returned (.int .i64 (limitN r : Nat)) ∧ Dx Fr w db (D.limit r) W' ∧ SameOn Fr W W' := by
  obtain ⟨O, h1, h2, h3, h4, h5⟩ := h
  refine (limitD_calls W O db D h1 r).mono ?_
  rintro e W' ⟨rfl, h6, h7⟩
  exact ⟨rfl, Dx.past h2 h3 h5 h7 h6 (h4.limit r)⟩
/-- Picks that lay before the law. -/
theorem Dx.crash_old {Fr : Nat → Prop} {w W : World} {db : Nat} {D : DS} (h : Dx Fr w db D W) (hmade : D.made ≤ 4294967296) (pv : Value) (picks : List Int) (hp : Ints (fun b => b < w.heap.size) W pv picks) :
    Calls Try.prog 15 #[.pointer (some ⟨db, 0, none⟩), pv] W fun e W' => e = .returned (.tuple #[]) ∧ Dx Fr w db (D.crash picks) W' ∧ SameOn Fr W W' := by
  obtain ⟨O, h1, h2, h3, h4, h5⟩ := h
  have hp2 : Ints (fun b => b < W.heap.size ∧ O b = none) W pv picks := by
    obtain ⟨A, cap, h6, h7, h8⟩ := hp
    refine ⟨A, cap, h6, h7, fun hl => ?_⟩
    obtain ⟨b, off, h9, h10, h11⟩ := h8 hl
    exact ⟨b, off, h9, ⟨Nat.lt_of_lt_of_le h10 h3.size, h2 b h10⟩, h11⟩
  refine (crash_calls W O db D h1 h4 hmade pv picks hp2).mono ?_
  rintro e W' ⟨rfl, O', h6, h7⟩
  exact ⟨rfl, Dx.past h2 h3 h5 h7 h6 (h4.crash picks)⟩

theorem Dx.less {Fr Fr' : Nat → Prop} {w W : World} {db : Nat} {D : DS} (h : Dx Fr w db D W) (hf : ∀ k, Fr' k → Fr k) : Dx Fr' w db D W := by
  obtain ⟨O, h1, h2, h3, h4, h5⟩ := h
  exact ⟨O, h1, h2, h3, h4, fun k hk => h5 k (hf k hk)⟩
theorem Dx.old {Fr : Nat → Prop} {w W : World} {db : Nat} {D : DS} (h : Dx Fr w db D W) : ∀ k, Fr k → k < W.heap.size := by
  obtain ⟨O, _, _, _, _, h5⟩ := h
  exact fun k hk => (h5 k hk).2.1
theorem SameOn.trans {Fr : Nat → Prop} {a b c : World} (h : SameOn Fr a b) (k : SameOn Fr b c) : SameOn Fr a c := ⟨fun j hj => (k.1 j hj).trans (h.1 j hj), Nat.le_trans h.2 k.2⟩
theorem SameOn.less {Fr Fr' : Nat → Prop} {a b : World} (h : SameOn Fr a b) (hf : ∀ k, Fr' k → Fr k) : SameOn Fr' a b := ⟨fun j hj => h.1 j (hf j hj), h.2⟩

/-- The blocks that a step has to leave: a law's, the document's disk's, and the step's box. -/
def Two (Fr : Nat → Prop) (q k : Nat) : Prop := Fr k ∨ k = q ∨ k = q + 1
/-- The box as it lies. -/
def BoxAt (W : World) (b : Nat) (s : Step) (dv pv : Value) : Prop := W.heap[b]? = some (.cells #[.int .i64 s.kind, .string s.name, .int .i64 s.at', dv, pv] 37 (0, 0))
/-- What holds ahead of the two calls. -/
structure Ahead (Fr : Nat → Prop) (W0 w : World) (db q : Nat) (D : DS) (s : Step) (dv pv : Value) (W : World) : Prop where
  disk : Dx (Two Fr q) w db D W
  ref : RefZ W q
  box : BoxAt W (q + 1) s dv pv
  stay : SameOn Fr W0 W
  old : ∀ k, Fr k → k < q
theorem Ahead.below {Fr : Nat → Prop} {W0 w W W' : World} {db q : Nat} {D : DS} {s : Step} {dv pv : Value} (h : Ahead Fr W0 w db q D s dv pv W) (hB : Below W.heap.size W W') : Ahead Fr W0 w db q D s dv pv W' :=
  ⟨h.disk.below hB, RD.below h.ref hB, (hB.block _ (Array.getElem?_eq_some_iff.1 h.box).1).trans h.box, h.stay.trans ((h.disk.sameOn hB).less fun _ hk => .inl hk), h.old⟩
theorem Ahead.same {Fr : Nat → Prop} {W0 w W W' : World} {db q : Nat} {D D' : DS} {s : Step} {dv pv : Value} (h : Ahead Fr W0 w db q D s dv pv W) (hd : Dx (Two Fr q) w db D' W') (hS : SameOn (Two Fr q) W W') : Ahead Fr W0 w db q D' s dv pv W' :=
  ⟨hd, (hS.1 q (.inr (.inl rfl))).trans h.ref, (hS.1 (q + 1) (.inr (.inr rfl))).trans h.box, h.stay.trans (hS.less fun _ hk => .inl hk), h.old⟩
/-- What holds behind the document's call. -/
structure Aside (Fr : Nat → Prop) (W0 w : World) (db q : Nat) (D : DS) (s : Step) (dv pv : Value) (W : World) : Prop where
  disk : Dx (Two Fr q) w db D W
  box : BoxAt W (q + 1) s dv pv
  stay : SameOn Fr W0 W
theorem Ahead.else {Fr : Nat → Prop} {W0 w W W' : World} {db q : Nat} {D : DS} {s : Step} {dv pv : Value} (h : Ahead Fr W0 w db q D s dv pv W) (hE : Else q W W') : Aside Fr W0 w db q D s dv pv W' :=
  ⟨h.disk.turn hE.1.size (fun k hk hf => hE.2 k hk fun e => hf (.inr (.inl e))) hE.1.os hE.1.tape hE.1.output, (hE.2 (q + 1) (Array.getElem?_eq_some_iff.1 h.box).1 (by omega)).trans h.box,
    h.stay.trans ⟨fun k hk => hE.2 k (h.disk.old k (.inl hk)) (by have := h.old k hk; omega), hE.1.size⟩⟩
/-- What a step leaves. -/
def Left (Fr : Nat → Prop) (W0 w : World) (db : Nat) (D : DS) (W : World) : Prop := Dx Fr w db D W ∧ SameOn Fr W0 W
theorem Aside.left {Fr : Nat → Prop} {W0 w W : World} {db q : Nat} {D : DS} {s : Step} {dv pv : Value} (h : Aside Fr W0 w db q D s dv pv W) : Left Fr W0 w db D W := ⟨h.disk.less fun _ hk => .inl hk, h.stay⟩

/-- A step's both boxes are laid. -/
theorem ahead {Fr : Nat → Prop} {w W : World} {db : Nat} {D : DS} (h : Dx Fr w db D W) (s : Step) (dv pv : Value) : Ahead Fr W w db W.heap.size D s dv pv (boxS (W.alloc (.cells #[.int .i64 0, .bool false, .slice none 0 0, .slice none 0 0, .slice none 0 0] 32)) s dv pv) := by
  have hs1 : (W.alloc (.cells #[.int .i64 0, .bool false, .slice none 0 0, .slice none 0 0, .slice none 0 0] 32)).heap.size = W.heap.size + 1 := by simp
  have b1 : Below W.heap.size W (W.alloc (.cells #[.int .i64 0, .bool false, .slice none 0 0, .slice none 0 0, .slice none 0 0] 32)) := (Below.refl _ _).alloc (Nat.le_refl _) _
  have hz : RefZ (W.alloc (.cells #[.int .i64 0, .bool false, .slice none 0 0, .slice none 0 0, .slice none 0 0] 32)) W.heap.size := by
    show (W.alloc _).heap[W.heap.size]? = _
    simp only [World.alloc, Array.getElem?_push_size]
  obtain ⟨W1, hW1⟩ : ∃ W1, W.alloc (.cells #[.int .i64 0, .bool false, .slice none 0 0, .slice none 0 0, .slice none 0 0] 32) = W1 := ⟨_, rfl⟩
  rw [hW1] at hs1 b1 hz ⊢
  have b2 : Below W1.heap.size W1 (boxS W1 s dv pv) := (Below.refl _ _).alloc (Nat.le_refl _) _
  have hs2 : (boxS W1 s dv pv).heap.size = W1.heap.size + 1 := by unfold boxS; simp
  have hx := boxS_new W1 s dv pv
  have hB := b1.trans (b2.mono b1.size)
  refine ⟨(h.add hB).less fun k hk => ?_, RD.below hz b2, by rw [← hs1]; exact hx, h.sameOn hB, h.old⟩
  rcases hk with hk | rfl | rfl
  · exact .inl hk
  · exact .inr (by omega)
  · exact .inr (by omega)

/-- Both orders, out of what either call does. -/
theorem duo_of {Fr : Nat → Prop} {W0 w : World} {db q : Nat} {D D' : DS} {s : Step} {dv pv : Value} {W : World} {n1 n2 : Nat} {f g : FuncId} {av bv : Array Value} (h : Ahead Fr W0 w db q D s dv pv W)
    (hf : ∀ W1, Dx (Two Fr q) w db D W1 → Calls Try.prog f av W1 fun e W2 => e = .returned (.int .i64 (n1 : Nat)) ∧ Dx (Two Fr q) w db D' W2 ∧ SameOn (Two Fr q) W1 W2)
    (hg : ∀ W1, RefZ W1 q → Below w.heap.size w W1 → Calls Try.prog g bv W1 (FreshO n2 q W1)) :
    Duo (q + 1) s dv pv (n1 : Nat) (n2 : Nat) f g av bv (Left Fr W0 w db D') W := by
  have hd : Ahead Fr W0 w db q D s dv pv W.drew := h.below (Below.refl _ _).drew
  constructor
  · refine (hf _ hd.disk).mono ?_
    rintro e W1 ⟨rfl, h1, h2⟩
    have hA := hd.same h1 h2
    refine ⟨rfl, Boxed.of hA.box, Lib.hid ((hg W1 hA.ref h1.low).mono ?_)⟩
    rintro e W2 ⟨rfl, hE⟩
    have h3 := hA.else hE
    exact ⟨rfl, Boxed.of h3.box, Lib.hid h3.left⟩
  · refine (hg _ hd.ref hd.disk.low).mono ?_
    rintro e W1 ⟨rfl, hE⟩
    have h3 := hd.else hE
    refine ⟨rfl, Boxed.of h3.box, Lib.hid ((hf W1 h3.disk).mono ?_)⟩
    rintro e W2 ⟨rfl, h5, h6⟩
    exact ⟨rfl, Boxed.of ((h6.1 (q + 1) (.inr (.inr rfl))).trans h3.box), Lib.hid ⟨h5.less fun _ hk => .inl hk, h3.stay.trans (h6.less fun _ hk => .inl hk)⟩⟩

/-- The step: it answers, and the disk is what the step makes of it. -/
theorem step_fresh {Fr : Nat → Prop} {w W : World} {db : Nat} {D : DS} (h : Dx Fr w db D W) (hmade : D.made ≤ 4294967296) (s : Step) (hs : s.fits) (dv pv : Value) (hD : Bytes w.heap.size w dv s.data) (hP : Ints (fun b => b < w.heap.size) w pv s.picks) :
    Calls Try.prog 10 #[.pointer (some ⟨db, 0, none⟩), .pointer (some ⟨W.heap.size, 0, none⟩), stepV s dv pv] (W.alloc (.cells #[.int .i64 0, .bool false, .slice none 0 0, .slice none 0 0, .slice none 0 0] 32)) fun e W' => ∃ t : Bool, e = .returned (.bool t) ∧ Left Fr W w db (s.on D) W' := by
  have hA := ahead h s dv pv
  obtain ⟨q, hq⟩ : ∃ q, W.heap.size = q := ⟨_, rfl⟩
  have hs1 : (W.alloc (.cells #[.int .i64 0, .bool false, .slice none 0 0, .slice none 0 0, .slice none 0 0] 32)).heap.size = q + 1 := by simp [hq]
  obtain ⟨W1, hW1⟩ : ∃ W1, W.alloc (.cells #[.int .i64 0, .bool false, .slice none 0 0, .slice none 0 0, .slice none 0 0] 32) = W1 := ⟨_, rfl⟩
  rw [hq, hW1] at hA
  rw [hq, hW1]
  rw [hW1] at hs1
  obtain ⟨dA, dc, rfl⟩ := hD.form
  obtain ⟨pA, pc, rfl, _⟩ := id hP
  have hmono : ∀ {r1 r2 : Int} {e : Ending} {W' : World} {D' : DS}, StepO r1 r2 (Left Fr W w db D') e W' → D' = s.on D → ∃ t : Bool, e = .returned (.bool t) ∧ Left Fr W w db (s.on D) W' := fun hO hD => by
    obtain ⟨t, he, _, hJ⟩ := hO
    exact ⟨t, he, hD ▸ hJ⟩
  by_cases k0 : s.kind = 0
  · obtain ⟨n, hn⟩ := freshWrite_calls s.name hs.name s.at' s.data hs.data
    refine (step_write db q s k0 dA pA _ dc _ pc W1 (D.writeN s.name s.at' s.data.length : Nat) (n : Nat) (Left Fr W w db (D.write s.name s.at' (str s.data))) ?_).mono fun e W' hO => hmono hO (by unfold Step.on; rw [if_pos k0])
    rw [hs1]
    refine duo_of hA (fun W2 h2 => h2.write hmade s.name hs.name s.at' hs.high _ s.data hs.data ((hD.below h2.low).more h2.low.size)) (fun W2 hz hB => hn W2 q _ w.heap.size hz (hD.below hB))
  by_cases k1 : s.kind = 1
  · obtain ⟨n, hn⟩ := freshCut_calls s.name hs.name s.at'
    refine (step_cut db q s k1 dA pA _ dc _ pc W1 (D.cutN s.name s.at' : Nat) (n : Nat) (Left Fr W w db (D.cut s.name s.at')) ?_).mono fun e W' hO => hmono hO (by unfold Step.on; rw [if_neg k0, if_pos k1])
    rw [hs1]
    exact duo_of hA (fun W2 h2 => h2.cut hmade s.name hs.name s.at' hs.high) (fun W2 hz _ => hn W2 q hz)
  by_cases k2 : s.kind = 2
  · obtain ⟨n, hn⟩ := freshRemove_calls s.name hs.name
    refine (step_remove db q s k2 dA pA _ dc _ pc W1 (D.removeN s.name : Nat) (n : Nat) (Left Fr W w db (D.remove s.name)) ?_).mono fun e W' hO => hmono hO (by unfold Step.on; rw [if_neg k0, if_neg k1, if_pos k2])
    rw [hs1]
    exact duo_of hA (fun W2 h2 => h2.remove hmade s.name hs.name) (fun W2 hz _ => hn W2 q hz)
  by_cases k3 : s.kind = 3
  · obtain ⟨n, hn⟩ := freshSync_calls s.name hs.name
    refine (step_sync db q s k3 dA pA _ dc _ pc W1 (D.syncN s.name : Nat) (n : Nat) (Left Fr W w db (D.sync s.name)) ?_).mono fun e W' hO => hmono hO (by unfold Step.on; rw [if_neg k0, if_neg k1, if_neg k2, if_pos k3])
    rw [hs1]
    exact duo_of hA (fun W2 h2 => h2.sync s.name hs.name) (fun W2 hz _ => hn W2 q hz)
  by_cases k4 : s.kind = 4
  · refine (step_crash db q s k4 dA pA _ dc _ pc W1 (Left Fr W w db (D.crash s.picks)) ?_).mono fun e W' hO => hmono hO (by unfold Step.on; rw [if_neg k0, if_neg k1, if_neg k2, if_neg k3, if_pos k4])
    rw [hs1]
    have hP2 : Ints (fun b => b < w.heap.size) (boxS W1 s (.slice dA s.data.length dc) (.slice pA s.picks.length pc)) (.slice pA s.picks.length pc) s.picks := hP.at fun b hb => hA.disk.low.block b hb
    refine (hA.disk.crash_old hmade _ s.picks hP2).mono ?_
    rintro e W2 ⟨rfl, h1, h2⟩
    have hA2 := hA.same h1 h2
    refine ⟨rfl, Boxed.of hA2.box, Lib.hid ((freshCrash_calls W2 q hA2.ref pA _ pc).mono ?_)⟩
    rintro e W3 ⟨rfl, hE⟩
    exact ⟨rfl, (hA2.else hE).left⟩
  by_cases k5 : s.kind = 5
  · refine (step_fail db q s k5 dA pA _ dc _ pc W1 (Left Fr W w db (D.fail (decide (s.at' ≠ 0)))) ?_).mono fun e W' hO => hmono hO (by unfold Step.on; rw [if_neg k0, if_neg k1, if_neg k2, if_neg k3, if_neg k4, if_pos k5])
    rw [hs1]
    refine (hA.disk.fail _).mono ?_
    rintro e W2 ⟨rfl, h1, h2⟩
    have hA2 := hA.same h1 h2
    refine ⟨rfl, Boxed.of hA2.box, ⟨_, _, _, _, _, hA2.ref⟩, Lib.hid ?_⟩
    exact (hA2.else (hA2.ref.else ((RefK.refl (Nat.le_refl q) (RD.lt hA2.ref)).put hA2.ref 1 _ (fun g hg => by cases hg)))).left
  by_cases k6 : s.kind = 6
  · by_cases hr : 0 ≤ s.at' ∧ s.at' ≤ 1073741824
    · have hl : limitN s.at' = 0 := if_pos hr
      refine (step_limit db q s k6 dA pA _ dc _ pc W1 (Left Fr W w db (D.limit s.at')) hr ?_).mono fun e W' hO => hmono hO (by unfold Step.on; rw [if_neg k0, if_neg k1, if_neg k2, if_neg k3, if_neg k4, if_neg k5, if_pos k6])
      rw [hs1]
      refine (hA.disk.limit s.at').mono ?_
      rintro e W2 ⟨rfl, h1, h2⟩
      have hA2 := hA.same h1 h2
      refine ⟨by rw [hl]; rfl, Boxed.of hA2.box, ⟨_, _, _, _, _, hA2.ref⟩, Lib.hid ?_⟩
      exact (hA2.else (hA2.ref.else ((RefK.refl (Nat.le_refl q) (RD.lt hA2.ref)).put hA2.ref 0 _ (fun g hg => by cases hg)))).left
    · have hl : limitN s.at' = 1 := if_neg hr
      refine (step_limit_no db q s k6 dA pA _ dc _ pc W1 (Left Fr W w db (D.limit s.at')) hr ?_).mono fun e W' hO => hmono hO (by unfold Step.on; rw [if_neg k0, if_neg k1, if_neg k2, if_neg k3, if_neg k4, if_neg k5, if_pos k6])
      rw [hs1]
      refine (hA.disk.limit s.at').mono ?_
      rintro e W2 ⟨rfl, h1, h2⟩
      have hA2 := hA.same h1 h2
      exact ⟨by rw [hl]; rfl, Boxed.of hA2.box, Lib.hid ⟨h1.less fun _ hk => .inl hk, hA2.stay⟩⟩
  · refine (step_other db q s (by omega) dA pA _ dc _ pc W1 (Left Fr W w db D) ⟨hA.disk.less fun _ hk => .inl hk, hA.stay⟩).mono fun e W' hO => hmono hO (by unfold Step.on; rw [if_neg k0, if_neg k1, if_neg k2, if_neg k3, if_neg k4, if_neg k5, if_neg k6])

end Go.Proofs.Ytmegiilkcidanaa.Disk

/-
  A step of the law: it is done to the disk and to the document's, both stand as the same data behind it, and they answer alike.
-/
namespace Go.Proofs.Ytmegiilkcidanaa.Disk
open Go Go.RowKit Go.Sort Go.Lib Go.Proofs.Ytmegiilkcidanaa.Law

/-- New blocks are none of the disk's, where only blocks that are none of it have turned. -/
theorem Dx.turn_add {Fr : Nat → Prop} {w W W' : World} {db : Nat} {D : DS} (h : Dx Fr w db D W) (hO : Only Fr W W') : Dx (fun k => Fr k ∨ (W.heap.size ≤ k ∧ k < W'.heap.size)) w db D W' := by
  have ht := h.turn hO.size (fun k hk hf => hO.same k hk hf) hO.os hO.tape hO.output
  obtain ⟨O, h1, h2, h3, h4, h5⟩ := h
  have hlow := ht.low
  refine ⟨O, h1.keep hO.size fun k hk ho => hO.same k hk fun hf => ho (h5 k hf).2.2, h2, hlow, h4, fun k hk => ?_⟩
  rcases hk with hk | hk
  · exact ⟨(h5 k hk).1, Nat.lt_of_lt_of_le (h5 k hk).2.1 hO.size, (h5 k hk).2.2⟩
  · exact ⟨Nat.le_trans h3.size hk.1, hk.2, Classical.byContradiction fun e => by have := h1.lt k e; omega⟩
theorem Only.more {R R' : Nat → Prop} {w W : World} (h : Only R w W) (hr : ∀ k, R k → R' k) : Only R' w W := ⟨h.os, h.tape, h.output, h.size, fun k hk hn => h.same k hk fun hf => hn (hr k hf)⟩

/-- Both disks, the first as D1, the document's as D2, beside blocks K that no call of either turns. -/
def Both (K : Nat → Prop) (w : World) (db q : Nat) (D1 D2 : DS) (W : World) : Prop :=
  ∃ R, Dx (fun k => R k ∨ K k) w db D1 W ∧ RefAt R w.heap.size q D2 W ∧ ∀ k, K k → ¬ R k

variable {K K' : Nat → Prop} {w W W' : World} {db q : Nat} {D D1 D2 D' : DS}

theorem Both.low (h : Both K w db q D1 D2 W) : Below w.heap.size w W := by
  obtain ⟨R, h1, _, _⟩ := h
  exact h1.low
theorem Both.kept (h : Both K w db q D1 D2 W) : ∀ k, K k → k < W.heap.size := by
  obtain ⟨R, h1, _, _⟩ := h
  exact fun k hk => h1.old k (.inr hk)
theorem Both.below (h : Both K w db q D1 D2 W) (hB : Below W.heap.size W W') : Both K w db q D1 D2 W' := by
  obtain ⟨R, h1, h2, h3⟩ := h
  exact ⟨R, h1.below hB, h2.below hB, h3⟩
theorem Both.less (h : Both K w db q D1 D2 W) (hk : ∀ k, K' k → K k) : Both K' w db q D1 D2 W := by
  obtain ⟨R, h1, h2, h3⟩ := h
  exact ⟨R, h1.less fun k hk' => hk'.imp id (hk k), h2, fun k hk' => h3 k (hk k hk')⟩
theorem Both.add (h : Both K w db q D1 D2 W) (hB : Below W.heap.size W W') : Both (fun k => K k ∨ (W.heap.size ≤ k ∧ k < W'.heap.size)) w db q D1 D2 W' := by
  obtain ⟨R, h1, h2, h3⟩ := h
  refine ⟨R, (h1.add hB).less fun k hk => ?_, h2.below hB, fun k hk hR => ?_⟩
  · rcases hk with hk | hk | hk
    · exact .inl (.inl hk)
    · exact .inl (.inr hk)
    · exact .inr hk
  · rcases hk with hk | hk
    · exact h3 k hk hR
    · have := h2.lt k hR; omega
theorem Both.same (h : Both K w db q D1 D2 W) (hB : Below W.heap.size W W') : SameOn K W W' := ⟨fun k hk => hB.block k (h.kept k hk), hB.size⟩

/-- A call of the first. -/
theorem Both.first (h : Both K w db q D1 D2 W) {f : FuncId} {av : Array Value} {E : Ending → Prop}
    (hf : ∀ Fr : Nat → Prop, Dx Fr w db D1 W → Calls Try.prog f av W fun e W2 => E e ∧ Dx Fr w db D' W2 ∧ SameOn Fr W W2) :
    Calls Try.prog f av W fun e W2 => E e ∧ Both K w db q D' D2 W2 ∧ SameOn K W W2 := by
  obtain ⟨R, h1, h2, h3⟩ := h
  refine (hf _ h1).mono ?_
  rintro e W2 ⟨he, h4, h5⟩
  exact ⟨he, ⟨R, h4, h2.keep (fun k hk => h5.1 k (.inl hk)) h5.2, h3⟩, h5.less fun _ hk => .inr hk⟩
/-- What a call of the document's disk makes of both. -/
theorem Both.turned {R : Nat → Prop} (h1 : Dx (fun k => R k ∨ K k) w db D1 W) (h3 : ∀ k, K k → ¬ R k) (hR : RefAt (More R W W') w.heap.size q D' W') (hO : Only R W W') : Both K w db q D1 D' W' ∧ SameOn K W W' := by
  have hk : ∀ k, K k → k < W.heap.size := fun k hk => h1.old k (.inr hk)
  refine ⟨⟨More R W W', (h1.turn_add (hO.more fun _ hk => .inl hk)).less fun k hk' => ?_, hR, fun k hK hR' => ?_⟩, fun k hK => hO.same k (hk k hK) (h3 k hK), hO.size⟩
  · rcases hk' with (hk' | hk') | hk'
    · exact .inl (.inl hk')
    · exact .inr hk'
    · exact .inl (.inr hk')
  · rcases hR' with hR' | hR'
    · exact h3 k hK hR'
    · have := hk k hK; omega
theorem Both.second (h : Both K w db q D1 D2 W) {f : FuncId} {av : Array Value} {E : Ending → Prop}
    (hf : ∀ R : Nat → Prop, RefAt R w.heap.size q D2 W → Calls Try.prog f av W fun e W2 => E e ∧ RefAt (More R W W2) w.heap.size q D' W2 ∧ Only R W W2) :
    Calls Try.prog f av W fun e W2 => E e ∧ Both K w db q D1 D' W2 ∧ SameOn K W W2 := by
  obtain ⟨R, h1, h2, h3⟩ := h
  refine (hf R h2).mono ?_
  rintro e W2 ⟨he, h4, h5⟩
  obtain ⟨h6, h7⟩ := Both.turned h1 h3 h4 h5
  exact ⟨he, h6, h7⟩

/-- What a step leaves. -/
def Stood (K : Nat → Prop) (w : World) (db q : Nat) (D : DS) (W0 W : World) : Prop := Both K w db q D D W ∧ SameOn K W0 W

/-- Both orders, out of what either call does. -/
theorem Both.duo {s : Step} {dv pv : Value} {b n : Nat} {f g : FuncId} {av bv : Array Value} {W0 : World} (h : Both K w db q D D W) (hK : K b) (hbox : BoxAt W b s dv pv) (h0 : SameOn K W0 W)
    (hf : ∀ (Fr : Nat → Prop) (W1 : World), Dx Fr w db D W1 → Calls Try.prog f av W1 fun e W2 => e = .returned (.int .i64 (n : Nat)) ∧ Dx Fr w db D' W2 ∧ SameOn Fr W1 W2)
    (hg : ∀ (R : Nat → Prop) (W1 : World), RefAt R w.heap.size q D W1 → Below w.heap.size w W1 → Calls Try.prog g bv W1 (RefPost R w.heap.size q n D' W1)) :
    Duo b s dv pv (n : Nat) (n : Nat) f g av bv (Stood K w db q D' W0) W := by
  have hB : Below W.heap.size W W.drew := (Below.refl _ _).drew
  have hd := h.below hB
  have hbd : BoxAt W.drew b s dv pv := (hB.block _ (Array.getElem?_eq_some_iff.1 hbox).1).trans hbox
  have hs := h0.trans (h.same hB)
  constructor
  · refine (hd.first (fun Fr hx => hf Fr _ hx)).mono ?_
    rintro e W1 ⟨rfl, h1, h2⟩
    have hb1 : BoxAt W1 b s dv pv := (h2.1 b hK).trans hbd
    refine ⟨rfl, Boxed.of hb1, Lib.hid ((h1.second (D' := D') (fun R hr => hg R _ hr h1.low)).mono ?_)⟩
    rintro e W2 ⟨rfl, h3, h4⟩
    exact ⟨rfl, Boxed.of ((h4.1 b hK).trans hb1), Lib.hid ⟨h3, hs.trans (h2.trans h4)⟩⟩
  · refine (hd.second (D' := D') (fun R hr => hg R _ hr hd.low)).mono ?_
    rintro e W1 ⟨rfl, h1, h2⟩
    have hb1 : BoxAt W1 b s dv pv := (h2.1 b hK).trans hbd
    refine ⟨rfl, Boxed.of hb1, Lib.hid ((h1.first (fun Fr hx => hf Fr _ hx)).mono ?_)⟩
    rintro e W2 ⟨rfl, h3, h4⟩
    exact ⟨rfl, Boxed.of ((h4.1 b hK).trans hb1), Lib.hid ⟨h3, hs.trans (h2.trans h4)⟩⟩

/-- The step. -/
theorem step_both (h : Both K w db q D D W) (hmade : D.made ≤ 100000) (s : Step) (hs : s.fits) (dv pv : Value) (hD : Bytes w.heap.size w dv s.data) (hP : Ints (fun b => b < w.heap.size) w pv s.picks) :
    Calls Try.prog 10 #[.pointer (some ⟨db, 0, none⟩), .pointer (some ⟨q, 0, none⟩), stepV s dv pv] W fun e W' => e = .returned (.bool true) ∧ Stood K w db q (s.on D) W W' := by
  obtain ⟨dA, dc, rfl⟩ := hD.form
  obtain ⟨pA, pc, rfl, _⟩ := id hP
  obtain ⟨b, hb⟩ : ∃ b, W.heap.size = b := ⟨_, rfl⟩
  have hx : BoxAt (boxS W s (.slice dA s.data.length dc) (.slice pA s.picks.length pc)) b s (.slice dA s.data.length dc) (.slice pA s.picks.length pc) := by rw [← hb]; exact boxS_new W s _ _
  have hB : Below W.heap.size W (boxS W s (.slice dA s.data.length dc) (.slice pA s.picks.length pc)) := (Below.refl _ _).alloc (Nat.le_refl _) _
  have hsz : (boxS W s (.slice dA s.data.length dc) (.slice pA s.picks.length pc)).heap.size = W.heap.size + 1 := by unfold boxS; simp
  have hA : Both (fun k => K k ∨ k = b) w db q D D (boxS W s (.slice dA s.data.length dc) (.slice pA s.picks.length pc)) := (h.add hB).less fun k hk => hk.imp id fun e => by omega
  have h0 : SameOn (fun k => K k ∨ k = b) (boxS W s (.slice dA s.data.length dc) (.slice pA s.picks.length pc)) (boxS W s (.slice dA s.data.length dc) (.slice pA s.picks.length pc)) := ⟨fun _ _ => rfl, Nat.le_refl _⟩
  have hS0 := h.same hB
  have hdone : ∀ {W' : World} {D' : DS}, Stood (fun k => K k ∨ k = b) w db q D' (boxS W s (.slice dA s.data.length dc) (.slice pA s.picks.length pc)) W' → Stood K w db q D' W W' := fun ⟨h1, h2⟩ => ⟨h1.less fun _ hk => .inl hk, hS0.trans (h2.less fun _ hk => .inl hk)⟩
  have hmono : ∀ {r1 : Int} {e : Ending} {W' : World} {D' : DS}, StepO r1 r1 (Stood (fun k => K k ∨ k = b) w db q D' (boxS W s (.slice dA s.data.length dc) (.slice pA s.picks.length pc))) e W' → D' = s.on D → e = .returned (.bool true) ∧ Stood K w db q (s.on D) W W' := fun hO hD => by
    obtain ⟨t, he, ht, hJ⟩ := hO
    rw [ht rfl] at he
    exact ⟨he, hD ▸ hdone hJ⟩
  have hm2 : D.made ≤ 4294967296 := by omega
  by_cases k0 : s.kind = 0
  · refine (step_write db q s k0 dA pA _ dc _ pc W (D.writeN s.name s.at' s.data.length : Nat) (D.writeN s.name s.at' s.data.length : Nat) (Stood (fun k => K k ∨ k = b) w db q (D.write s.name s.at' (str s.data)) _) ?_).mono fun e W' hO => hmono hO (by unfold Step.on; rw [if_pos k0])
    rw [hb]
    exact hA.duo (.inr rfl) hx h0 (fun Fr W1 h2 => h2.write hm2 s.name hs.name s.at' hs.high _ s.data hs.data ((hD.below h2.low).more h2.low.size)) (fun R W1 hr hB => hr.write hmade s.name hs.name s.at' _ s.data hs.data (hD.below hB))
  by_cases k1 : s.kind = 1
  · refine (step_cut db q s k1 dA pA _ dc _ pc W (D.cutN s.name s.at' : Nat) (D.cutN s.name s.at' : Nat) (Stood (fun k => K k ∨ k = b) w db q (D.cut s.name s.at') _) ?_).mono fun e W' hO => hmono hO (by unfold Step.on; rw [if_neg k0, if_pos k1])
    rw [hb]
    exact hA.duo (.inr rfl) hx h0 (fun Fr W1 h2 => h2.cut hm2 s.name hs.name s.at' hs.high) (fun R W1 hr _ => hr.cut hmade s.name hs.name s.at')
  by_cases k2 : s.kind = 2
  · refine (step_remove db q s k2 dA pA _ dc _ pc W (D.removeN s.name : Nat) (D.removeN s.name : Nat) (Stood (fun k => K k ∨ k = b) w db q (D.remove s.name) _) ?_).mono fun e W' hO => hmono hO (by unfold Step.on; rw [if_neg k0, if_neg k1, if_pos k2])
    rw [hb]
    exact hA.duo (.inr rfl) hx h0 (fun Fr W1 h2 => h2.remove hm2 s.name hs.name) (fun R W1 hr _ => hr.remove hmade s.name hs.name)
  by_cases k3 : s.kind = 3
  · refine (step_sync db q s k3 dA pA _ dc _ pc W (D.syncN s.name : Nat) (D.syncN s.name : Nat) (Stood (fun k => K k ∨ k = b) w db q (D.sync s.name) _) ?_).mono fun e W' hO => hmono hO (by unfold Step.on; rw [if_neg k0, if_neg k1, if_neg k2, if_pos k3])
    rw [hb]
    exact hA.duo (.inr rfl) hx h0 (fun Fr W1 h2 => h2.sync s.name hs.name) (fun R W1 hr _ => hr.sync hmade s.name hs.name)
  by_cases k4 : s.kind = 4
  · refine (step_crash db q s k4 dA pA _ dc _ pc W (Stood (fun k => K k ∨ k = b) w db q (D.crash s.picks) (boxS W s (.slice dA s.data.length dc) (.slice pA s.picks.length pc))) ?_).mono fun e W' hO => hmono hO (by unfold Step.on; rw [if_neg k0, if_neg k1, if_neg k2, if_neg k3, if_pos k4])
    rw [hb]
    refine (hA.first (E := fun e => e = .returned (.tuple #[])) (D' := D.crash s.picks) (fun Fr h2 => h2.crash_old hm2 _ s.picks (hP.at fun b hb => h2.low.block b hb))).mono ?_
    rintro e W2 ⟨rfl, h1, h2⟩
    have hb1 : BoxAt W2 b s (.slice dA s.data.length dc) (.slice pA s.picks.length pc) := (h2.1 b (.inr rfl)).trans hx
    refine ⟨rfl, Boxed.of hb1, Lib.hid ((h1.second (E := fun e => e = .returned (.tuple #[])) (D' := D.crash s.picks) (fun R hr => hr.crash hmade _ s.picks (hP.at fun b hb => h1.low.block b hb))).mono ?_)⟩
    rintro e W3 ⟨rfl, h3, h4⟩
    exact ⟨rfl, h3, h2.trans h4⟩
  by_cases k5 : s.kind = 5
  · refine (step_fail db q s k5 dA pA _ dc _ pc W (Stood (fun k => K k ∨ k = b) w db q (D.fail (decide (s.at' ≠ 0))) (boxS W s (.slice dA s.data.length dc) (.slice pA s.picks.length pc))) ?_).mono fun e W' hO => hmono hO (by unfold Step.on; rw [if_neg k0, if_neg k1, if_neg k2, if_neg k3, if_neg k4, if_pos k5])
    rw [hb]
    refine (hA.first (E := fun e => e = .returned (.tuple #[])) (D' := D.fail (decide (s.at' ≠ 0))) (fun Fr h2 => h2.fail _)).mono ?_
    rintro e W2 ⟨rfl, h1, h2⟩
    have hb1 : BoxAt W2 b s (.slice dA s.data.length dc) (.slice pA s.picks.length pc) := (h2.1 b (.inr rfl)).trans hx
    obtain ⟨R, e1, e2, e3⟩ := h1
    obtain ⟨e4, e5⟩ := e2.fail (decide (s.at' ≠ 0))
    have e6 : RefAt (More R W2 (W2.setCell ⟨q, 1, none⟩ (.bool (decide (s.at' ≠ 0))))) w.heap.size q (D.fail (decide (s.at' ≠ 0))) (W2.setCell ⟨q, 1, none⟩ (.bool (decide (s.at' ≠ 0)))) := e4.more (fun k hk => .inl hk) fun k hk => hk.elim (e4.lt k) (·.2)
    obtain ⟨e7, e8⟩ := Both.turned e1 e3 e6 e5
    exact ⟨rfl, Boxed.of hb1, e2.rd, Lib.hid ⟨e7, h2.trans e8⟩⟩
  by_cases k6 : s.kind = 6
  · by_cases hr : 0 ≤ s.at' ∧ s.at' ≤ 1073741824
    · have hl : limitN s.at' = 0 := if_pos hr
      refine (step_limit db q s k6 dA pA _ dc _ pc W (Stood (fun k => K k ∨ k = b) w db q (D.limit s.at') (boxS W s (.slice dA s.data.length dc) (.slice pA s.picks.length pc))) hr ?_).mono fun e W' hO => hmono hO (by unfold Step.on; rw [if_neg k0, if_neg k1, if_neg k2, if_neg k3, if_neg k4, if_neg k5, if_pos k6])
      rw [hb]
      refine (hA.first (E := fun e => e = .returned (.int .i64 (limitN s.at' : Nat))) (D' := D.limit s.at') (fun Fr h2 => h2.limit _)).mono ?_
      rintro e W2 ⟨rfl, h1, h2⟩
      have hb1 : BoxAt W2 b s (.slice dA s.data.length dc) (.slice pA s.picks.length pc) := (h2.1 b (.inr rfl)).trans hx
      obtain ⟨R, e1, e2, e3⟩ := h1
      obtain ⟨e4, e5⟩ := e2.limit hr
      have e6 : RefAt (More R W2 (W2.setCell ⟨q, 0, none⟩ (.int .i64 s.at'))) w.heap.size q (D.limit s.at') (W2.setCell ⟨q, 0, none⟩ (.int .i64 s.at')) := e4.more (fun k hk => .inl hk) fun k hk => hk.elim (e4.lt k) (·.2)
      obtain ⟨e7, e8⟩ := Both.turned e1 e3 e6 e5
      exact ⟨by rw [hl]; rfl, Boxed.of hb1, e2.rd, Lib.hid ⟨e7, h2.trans e8⟩⟩
    · have hl : limitN s.at' = 1 := if_neg hr
      have hD : D.limit s.at' = D := if_neg hr
      refine (step_limit_no db q s k6 dA pA _ dc _ pc W (Stood (fun k => K k ∨ k = b) w db q (D.limit s.at') (boxS W s (.slice dA s.data.length dc) (.slice pA s.picks.length pc))) hr ?_).mono fun e W' hO => hmono hO (by unfold Step.on; rw [if_neg k0, if_neg k1, if_neg k2, if_neg k3, if_neg k4, if_neg k5, if_pos k6])
      rw [hb]
      refine (hA.first (E := fun e => e = .returned (.int .i64 (limitN s.at' : Nat))) (D' := D.limit s.at') (fun Fr h2 => h2.limit _)).mono ?_
      rintro e W2 ⟨rfl, h1, h2⟩
      have hb1 : BoxAt W2 b s (.slice dA s.data.length dc) (.slice pA s.picks.length pc) := (h2.1 b (.inr rfl)).trans hx
      refine ⟨by rw [hl]; rfl, Boxed.of hb1, Lib.hid ⟨?_, h2⟩⟩
      rw [hD] at h1 ⊢
      exact h1
  · refine (step_other db q s (by omega) dA pA _ dc _ pc W (Stood (fun k => K k ∨ k = b) w db q D (boxS W s (.slice dA s.data.length dc) (.slice pA s.picks.length pc))) ⟨hA, h0⟩).mono fun e W' hO => hmono hO (by unfold Step.on; rw [if_neg k0, if_neg k1, if_neg k2, if_neg k3, if_neg k4, if_neg k5, if_neg k6])

end Go.Proofs.Ytmegiilkcidanaa.Disk
