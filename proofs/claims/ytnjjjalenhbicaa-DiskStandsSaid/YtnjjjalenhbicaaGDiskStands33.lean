/-
  Put together out of texts of one chain: what they hold stands ahead of each.
-/
import Derived.Test.YtnjjjalenhbicaaGDiskStands25
import Derived.Test.YtnjjjalenhbicaaGDiskStands32
/-
  A step that is done to a disk and to a new one of the document's.
-/
namespace Go.Proofs.Ytnjjjalenhbicaa.Disk
open Go Go.RowKit Go.Sort Go.Lib Go.Proofs.Ytnjjjalenhbicaa.Law

theorem Dx.dk {Fr : Nat → Prop} {w W : World} {db : Nat} {D : DS} (h : Dx Fr w db D W) : Dk w db D W := by
  obtain ⟨O, h1, h2, h3, h4, _⟩ := h
  exact ⟨O, h1, h2, h3, h4⟩
theorem Dx.cut {Fr : Nat → Prop} {w W : World} {db : Nat} {D : DS} (h : Dx Fr w db D W) (hmade : D.made ≤ 4294967296) (s : ByteArray) (hs63 : s.size ≤ 9223372036854775807) (k : Int) (hk63 : k ≤ 9223372036854775807) :
    Calls Try.prog 24 #[.pointer (some ⟨db, 0, none⟩), .string s, .int .i64 k] W fun e W' => e = .returned (.int .i64 (D.cutN s k : Nat)) ∧ Dx Fr w db (D.cut s k) W' ∧ SameOn Fr W W' := by
  obtain ⟨O, h1, h2, h3, h4, h5⟩ := h
  refine (cutD_calls W O db D h1 h4 hmade s hs63 k hk63).mono ?_
  rintro e W' ⟨rfl, O', h6, h7⟩
  exact ⟨rfl, Dx.past h2 h3 h5 h7 h6 (h4.cut s k)⟩
theorem Dx.remove {Fr : Nat → Prop} {w W : World} {db : Nat} {D : DS} (h : Dx Fr w db D W) (hmade : D.made ≤ 4294967296) (s : ByteArray) (hs63 : s.size ≤ 9223372036854775807) :
    Calls Try.prog 25 #[.pointer (some ⟨db, 0, none⟩), .string s] W fun e W' => e = .returned (.int .i64 (D.removeN s : Nat)) ∧ Dx Fr w db (D.remove s) W' ∧ SameOn Fr W W' := by
  obtain ⟨O, h1, h2, h3, h4, h5⟩ := h
  refine (removeD_calls W O db D h1 h4 hmade s hs63).mono ?_
  rintro e W' ⟨rfl, O', h6, h7⟩
  exact ⟨rfl, Dx.past h2 h3 h5 h7 h6 (h4.remove s)⟩
theorem Dx.fail {Fr : Nat → Prop} {w W : World} {db : Nat} {D : DS} (h : Dx Fr w db D W) (b : Bool) :
    Calls Try.prog 12 #[.pointer (some ⟨db, 0, none⟩), .bool b] W fun e W' => e = .returned (.tuple #[]) ∧ Dx Fr w db (D.fail b) W' ∧ SameOn Fr W W' := by
  obtain ⟨O, h1, h2, h3, h4, h5⟩ := h
  refine (failD_calls W O db D h1 b).mono ?_
  rintro e W' ⟨rfl, h6, h7⟩
  exact ⟨rfl, Dx.past h2 h3 h5 h7 h6 (h4.fail b)⟩
theorem Dx.limit {Fr : Nat → Prop} {w W : World} {db : Nat} {D : DS} (h : Dx Fr w db D W) (r : Int) :
    Calls Try.prog 26 #[.pointer (some ⟨db, 0, none⟩), .int .i64 r] W fun e W' => e = .returned (.int .i64 (limitN r : Nat)) ∧ Dx Fr w db (D.limit r) W' ∧ SameOn Fr W W' := by
  obtain ⟨O, h1, h2, h3, h4, h5⟩ := h
  refine (limitD_calls W O db D h1 r).mono ?_
  rintro e W' ⟨rfl, h6, h7⟩
  exact ⟨rfl, Dx.past h2 h3 h5 h7 h6 (h4.limit r)⟩
/-- Picks that lay before the law. -/
theorem Dx.crash_old {Fr : Nat → Prop} {w W : World} {db : Nat} {D : DS} (h : Dx Fr w db D W) (hmade : D.made ≤ 4294967296) (pv : Value) (picks : List Int) (hp : Ints (fun b => b < w.heap.size) W pv picks) :
    Calls Try.prog 15 #[.pointer (some ⟨db, 0, none⟩), pv] W fun e W' => e = .returned (.tuple #[]) ∧ Dx Fr w db (D.crash picks) W' ∧ SameOn Fr W W' := by
  obtain ⟨O, h1, h2, h3, h4, h5⟩ := h
  have hp2 : Ints (fun b => b < W.heap.size ∧ O b = none) W pv picks := by
    obtain ⟨A, cap, h6, h7, h8⟩ := hp
    refine ⟨A, cap, h6, h7, fun hl => ?_⟩
    obtain ⟨b, off, h9, h10, h11⟩ := h8 hl
    exact ⟨b, off, h9, ⟨Nat.lt_of_lt_of_le h10 h3.size, h2 b h10⟩, h11⟩
  refine (crash_calls W O db D h1 h4 hmade pv picks hp2).mono ?_
  rintro e W' ⟨rfl, O', h6, h7⟩
  exact ⟨rfl, Dx.past h2 h3 h5 h7 h6 (h4.crash picks)⟩

theorem Dx.less {Fr Fr' : Nat → Prop} {w W : World} {db : Nat} {D : DS} (h : Dx Fr w db D W) (hf : ∀ k, Fr' k → Fr k) : Dx Fr' w db D W := by
  obtain ⟨O, h1, h2, h3, h4, h5⟩ := h
  exact ⟨O, h1, h2, h3, h4, fun k hk => h5 k (hf k hk)⟩
theorem Dx.old {Fr : Nat → Prop} {w W : World} {db : Nat} {D : DS} (h : Dx Fr w db D W) : ∀ k, Fr k → k < W.heap.size := by
  obtain ⟨O, _, _, _, _, h5⟩ := h
  exact fun k hk => (h5 k hk).2.1
theorem SameOn.trans {Fr : Nat → Prop} {a b c : World} (h : SameOn Fr a b) (k : SameOn Fr b c) : SameOn Fr a c := ⟨fun j hj => (k.1 j hj).trans (h.1 j hj), Nat.le_trans h.2 k.2⟩
theorem SameOn.less {Fr Fr' : Nat → Prop} {a b : World} (h : SameOn Fr a b) (hf : ∀ k, Fr' k → Fr k) : SameOn Fr' a b := ⟨fun j hj => h.1 j (hf j hj), h.2⟩

/-- The blocks that a step has to leave: a law's, the document's disk's, and the step's box. -/
def Two (Fr : Nat → Prop) (q k : Nat) : Prop := Fr k ∨ k = q ∨ k = q + 1
/-- The box as it lies. -/
def BoxAt (W : World) (b : Nat) (s : Step) (dv pv : Value) : Prop := W.heap[b]? = some (.cells #[.int .i64 s.kind, .string s.name, .int .i64 s.at', dv, pv] 37 (0, 0))
/-- What holds ahead of the two calls. -/
structure Ahead (Fr : Nat → Prop) (W0 w : World) (db q : Nat) (D : DS) (s : Step) (dv pv : Value) (W : World) : Prop where
  disk : Dx (Two Fr q) w db D W
  ref : RefZ W q
  box : BoxAt W (q + 1) s dv pv
  stay : SameOn Fr W0 W
  old : ∀ k, Fr k → k < q
theorem Ahead.below {Fr : Nat → Prop} {W0 w W W' : World} {db q : Nat} {D : DS} {s : Step} {dv pv : Value} (h : Ahead Fr W0 w db q D s dv pv W) (hB : Below W.heap.size W W') : Ahead Fr W0 w db q D s dv pv W' :=
  ⟨h.disk.below hB, RD.below h.ref hB, (hB.block _ (Array.getElem?_eq_some_iff.1 h.box).1).trans h.box, h.stay.trans ((h.disk.sameOn hB).less fun _ hk => .inl hk), h.old⟩
theorem Ahead.same {Fr : Nat → Prop} {W0 w W W' : World} {db q : Nat} {D D' : DS} {s : Step} {dv pv : Value} (h : Ahead Fr W0 w db q D s dv pv W) (hd : Dx (Two Fr q) w db D' W') (hS : SameOn (Two Fr q) W W') : Ahead Fr W0 w db q D' s dv pv W' :=
  ⟨hd, (hS.1 q (.inr (.inl rfl))).trans h.ref, (hS.1 (q + 1) (.inr (.inr rfl))).trans h.box, h.stay.trans (hS.less fun _ hk => .inl hk), h.old⟩
/-- What holds behind the document's call. -/
structure Aside (Fr : Nat → Prop) (W0 w : World) (db q : Nat) (D : DS) (s : Step) (dv pv : Value) (W : World) : Prop where
  disk : Dx (Two Fr q) w db D W
  box : BoxAt W (q + 1) s dv pv
  stay : SameOn Fr W0 W
theorem Ahead.else {Fr : Nat → Prop} {W0 w W W' : World} {db q : Nat} {D : DS} {s : Step} {dv pv : Value} (h : Ahead Fr W0 w db q D s dv pv W) (hE : Else q W W') : Aside Fr W0 w db q D s dv pv W' :=
  ⟨h.disk.turn hE.1.size (fun k hk hf => hE.2 k hk fun e => hf (.inr (.inl e))) hE.1.os hE.1.tape hE.1.output, (hE.2 (q + 1) (Array.getElem?_eq_some_iff.1 h.box).1 (by omega)).trans h.box,
    h.stay.trans ⟨fun k hk => hE.2 k (h.disk.old k (.inl hk)) (by have := h.old k hk; omega), hE.1.size⟩⟩
/-- What a step leaves. -/
def Left (Fr : Nat → Prop) (W0 w : World) (db : Nat) (D : DS) (W : World) : Prop := Dx Fr w db D W ∧ SameOn Fr W0 W
theorem Aside.left {Fr : Nat → Prop} {W0 w W : World} {db q : Nat} {D : DS} {s : Step} {dv pv : Value} (h : Aside Fr W0 w db q D s dv pv W) : Left Fr W0 w db D W := ⟨h.disk.less fun _ hk => .inl hk, h.stay⟩

/-- A step's both boxes are laid. -/
theorem ahead {Fr : Nat → Prop} {w W : World} {db : Nat} {D : DS} (h : Dx Fr w db D W) (s : Step) (dv pv : Value) : Ahead Fr W w db W.heap.size D s dv pv (boxS (W.alloc (.cells #[.int .i64 0, .bool false, .slice none 0 0, .slice none 0 0, .slice none 0 0] 32)) s dv pv) := by
  have hs1 : (W.alloc (.cells #[.int .i64 0, .bool false, .slice none 0 0, .slice none 0 0, .slice none 0 0] 32)).heap.size = W.heap.size + 1 := by simp
  have b1 : Below W.heap.size W (W.alloc (.cells #[.int .i64 0, .bool false, .slice none 0 0, .slice none 0 0, .slice none 0 0] 32)) := (Below.refl _ _).alloc (Nat.le_refl _) _
  have hz : RefZ (W.alloc (.cells #[.int .i64 0, .bool false, .slice none 0 0, .slice none 0 0, .slice none 0 0] 32)) W.heap.size := by
    show (W.alloc _).heap[W.heap.size]? = _
    simp only [World.alloc, Array.getElem?_push_size]
  obtain ⟨W1, hW1⟩ : ∃ W1, W.alloc (.cells #[.int .i64 0, .bool false, .slice none 0 0, .slice none 0 0, .slice none 0 0] 32) = W1 := ⟨_, rfl⟩
  rw [hW1] at hs1 b1 hz ⊢
  have b2 : Below W1.heap.size W1 (boxS W1 s dv pv) := (Below.refl _ _).alloc (Nat.le_refl _) _
  have hs2 : (boxS W1 s dv pv).heap.size = W1.heap.size + 1 := by unfold boxS; simp
  have hx := boxS_new W1 s dv pv
  have hB := b1.trans (b2.mono b1.size)
  refine ⟨(h.add hB).less fun k hk => ?_, RD.below hz b2, by rw [← hs1]; exact hx, h.sameOn hB, h.old⟩
  rcases hk with hk | rfl | rfl
  · exact .inl hk
  · exact .inr (by omega)
  · exact .inr (by omega)

/-- Both orders, out of what either call does. -/
theorem duo_of {Fr : Nat → Prop} {W0 w : World} {db q : Nat} {D D' : DS} {s : Step} {dv pv : Value} {W : World} {n1 n2 : Nat} {f g : FuncId} {av bv : Array Value} (h : Ahead Fr W0 w db q D s dv pv W)
    (hf : ∀ W1, Dx (Two Fr q) w db D W1 → Calls Try.prog f av W1 fun e W2 => e = .returned (.int .i64 (n1 : Nat)) ∧ Dx (Two Fr q) w db D' W2 ∧ SameOn (Two Fr q) W1 W2)
    (hg : ∀ W1, RefZ W1 q → Below w.heap.size w W1 → Calls Try.prog g bv W1 (FreshO n2 q W1)) :
    Duo (q + 1) s dv pv (n1 : Nat) (n2 : Nat) f g av bv (Left Fr W0 w db D') W := by
  have hd : Ahead Fr W0 w db q D s dv pv W.drew := h.below (Below.refl _ _).drew
  constructor
  · refine (hf _ hd.disk).mono ?_
    rintro e W1 ⟨rfl, h1, h2⟩
    have hA := hd.same h1 h2
    refine ⟨rfl, Boxed.of hA.box, Lib.hid ((hg W1 hA.ref h1.low).mono ?_)⟩
    rintro e W2 ⟨rfl, hE⟩
    have h3 := hA.else hE
    exact ⟨rfl, Boxed.of h3.box, Lib.hid h3.left⟩
  · refine (hg _ hd.ref hd.disk.low).mono ?_
    rintro e W1 ⟨rfl, hE⟩
    have h3 := hd.else hE
    refine ⟨rfl, Boxed.of h3.box, Lib.hid ((hf W1 h3.disk).mono ?_)⟩
    rintro e W2 ⟨rfl, h5, h6⟩
    exact ⟨rfl, Boxed.of ((h6.1 (q + 1) (.inr (.inr rfl))).trans h3.box), Lib.hid ⟨h5.less fun _ hk => .inl hk, h3.stay.trans (h6.less fun _ hk => .inl hk)⟩⟩

/-- The step: it answers, and the disk is what the step makes of it. -/
theorem step_fresh {Fr : Nat → Prop} {w W : World} {db : Nat} {D : DS} (h : Dx Fr w db D W) (hmade : D.made ≤ 4294967296) (s : Step) (hs : s.fits) (dv pv : Value) (hD : Bytes w.heap.size w dv s.data) (hP : Ints (fun b => b < w.heap.size) w pv s.picks) :
    Calls Try.prog 10 #[.pointer (some ⟨db, 0, none⟩), .pointer (some ⟨W.heap.size, 0, none⟩), stepV s dv pv] (W.alloc (.cells #[.int .i64 0, .bool false, .slice none 0 0, .slice none 0 0, .slice none 0 0] 32)) fun e W' => ∃ t : Bool, e = .returned (.bool t) ∧ Left Fr W w db (s.on D) W' := by
  have hA := ahead h s dv pv
  obtain ⟨q, hq⟩ : ∃ q, W.heap.size = q := ⟨_, rfl⟩
  have hs1 : (W.alloc (.cells #[.int .i64 0, .bool false, .slice none 0 0, .slice none 0 0, .slice none 0 0] 32)).heap.size = q + 1 := by simp [hq]
  obtain ⟨W1, hW1⟩ : ∃ W1, W.alloc (.cells #[.int .i64 0, .bool false, .slice none 0 0, .slice none 0 0, .slice none 0 0] 32) = W1 := ⟨_, rfl⟩
  rw [hq, hW1] at hA
  rw [hq, hW1]
  rw [hW1] at hs1
  obtain ⟨dA, dc, rfl⟩ := hD.form
  obtain ⟨pA, pc, rfl, _⟩ := id hP
  have hmono : ∀ {r1 r2 : Int} {e : Ending} {W' : World} {D' : DS}, StepO r1 r2 (Left Fr W w db D') e W' → D' = s.on D → ∃ t : Bool, e = .returned (.bool t) ∧ Left Fr W w db (s.on D) W' := fun hO hD => by
    obtain ⟨t, he, _, hJ⟩ := hO
    exact ⟨t, he, hD ▸ hJ⟩
  by_cases k0 : s.kind = 0
  · obtain ⟨n, hn⟩ := freshWrite_calls s.name hs.name s.at' s.data hs.data
    refine (step_write db q s k0 dA pA _ dc _ pc W1 (D.writeN s.name s.at' s.data.length : Nat) (n : Nat) (Left Fr W w db (D.write s.name s.at' (str s.data))) ?_).mono fun e W' hO => hmono hO (by unfold Step.on; rw [if_pos k0])
    rw [hs1]
    refine duo_of hA (fun W2 h2 => h2.write hmade s.name hs.name s.at' hs.high _ s.data hs.data ((hD.below h2.low).more h2.low.size)) (fun W2 hz hB => hn W2 q _ w.heap.size hz (hD.below hB))
  by_cases k1 : s.kind = 1
  · obtain ⟨n, hn⟩ := freshCut_calls s.name hs.name s.at'
    refine (step_cut db q s k1 dA pA _ dc _ pc W1 (D.cutN s.name s.at' : Nat) (n : Nat) (Left Fr W w db (D.cut s.name s.at')) ?_).mono fun e W' hO => hmono hO (by unfold Step.on; rw [if_neg k0, if_pos k1])
    rw [hs1]
    exact duo_of hA (fun W2 h2 => h2.cut hmade s.name hs.name s.at' hs.high) (fun W2 hz _ => hn W2 q hz)
  by_cases k2 : s.kind = 2
  · obtain ⟨n, hn⟩ := freshRemove_calls s.name hs.name
    refine (step_remove db q s k2 dA pA _ dc _ pc W1 (D.removeN s.name : Nat) (n : Nat) (Left Fr W w db (D.remove s.name)) ?_).mono fun e W' hO => hmono hO (by unfold Step.on; rw [if_neg k0, if_neg k1, if_pos k2])
    rw [hs1]
    exact duo_of hA (fun W2 h2 => h2.remove hmade s.name hs.name) (fun W2 hz _ => hn W2 q hz)
  by_cases k3 : s.kind = 3
  · obtain ⟨n, hn⟩ := freshSync_calls s.name hs.name
    refine (step_sync db q s k3 dA pA _ dc _ pc W1 (D.syncN s.name : Nat) (n : Nat) (Left Fr W w db (D.sync s.name)) ?_).mono fun e W' hO => hmono hO (by unfold Step.on; rw [if_neg k0, if_neg k1, if_neg k2, if_pos k3])
    rw [hs1]
    exact duo_of hA (fun W2 h2 => h2.sync s.name hs.name) (fun W2 hz _ => hn W2 q hz)
  by_cases k4 : s.kind = 4
  · refine (step_crash db q s k4 dA pA _ dc _ pc W1 (Left Fr W w db (D.crash s.picks)) ?_).mono fun e W' hO => hmono hO (by unfold Step.on; rw [if_neg k0, if_neg k1, if_neg k2, if_neg k3, if_pos k4])
    rw [hs1]
    have hP2 : Ints (fun b => b < w.heap.size) (boxS W1 s (.slice dA s.data.length dc) (.slice pA s.picks.length pc)) (.slice pA s.picks.length pc) s.picks := hP.at fun b hb => hA.disk.low.block b hb
    refine (hA.disk.crash_old hmade _ s.picks hP2).mono ?_
    rintro e W2 ⟨rfl, h1, h2⟩
    have hA2 := hA.same h1 h2
    refine ⟨rfl, Boxed.of hA2.box, Lib.hid ((freshCrash_calls W2 q hA2.ref pA _ pc).mono ?_)⟩
    rintro e W3 ⟨rfl, hE⟩
    exact ⟨rfl, (hA2.else hE).left⟩
  by_cases k5 : s.kind = 5
  · refine (step_fail db q s k5 dA pA _ dc _ pc W1 (Left Fr W w db (D.fail (decide (s.at' ≠ 0)))) ?_).mono fun e W' hO => hmono hO (by unfold Step.on; rw [if_neg k0, if_neg k1, if_neg k2, if_neg k3, if_neg k4, if_pos k5])
    rw [hs1]
    refine (hA.disk.fail _).mono ?_
    rintro e W2 ⟨rfl, h1, h2⟩
    have hA2 := hA.same h1 h2
    refine ⟨rfl, Boxed.of hA2.box, ⟨_, _, _, _, _, hA2.ref⟩, Lib.hid ?_⟩
    exact (hA2.else (hA2.ref.else ((RefK.refl (Nat.le_refl q) (RD.lt hA2.ref)).put hA2.ref 1 _ (fun g hg => by cases hg)))).left
  by_cases k6 : s.kind = 6
  · by_cases hr : 0 ≤ s.at' ∧ s.at' ≤ 1073741824
    · have hl : limitN s.at' = 0 := if_pos hr
      refine (step_limit db q s k6 dA pA _ dc _ pc W1 (Left Fr W w db (D.limit s.at')) hr ?_).mono fun e W' hO => hmono hO (by unfold Step.on; rw [if_neg k0, if_neg k1, if_neg k2, if_neg k3, if_neg k4, if_neg k5, if_pos k6])
      rw [hs1]
      refine (hA.disk.limit s.at').mono ?_
      rintro e W2 ⟨rfl, h1, h2⟩
      have hA2 := hA.same h1 h2
      refine ⟨by rw [hl]; rfl, Boxed.of hA2.box, ⟨_, _, _, _, _, hA2.ref⟩, Lib.hid ?_⟩
      exact (hA2.else (hA2.ref.else ((RefK.refl (Nat.le_refl q) (RD.lt hA2.ref)).put hA2.ref 0 _ (fun g hg => by cases hg)))).left
    · have hl : limitN s.at' = 1 := if_neg hr
      refine (step_limit_no db q s k6 dA pA _ dc _ pc W1 (Left Fr W w db (D.limit s.at')) hr ?_).mono fun e W' hO => hmono hO (by unfold Step.on; rw [if_neg k0, if_neg k1, if_neg k2, if_neg k3, if_neg k4, if_neg k5, if_pos k6])
      rw [hs1]
      refine (hA.disk.limit s.at').mono ?_
      rintro e W2 ⟨rfl, h1, h2⟩
      have hA2 := hA.same h1 h2
      exact ⟨by rw [hl]; rfl, Boxed.of hA2.box, Lib.hid ⟨h1.less fun _ hk => .inl hk, hA2.stay⟩⟩
  · refine (step_other db q s (by omega) dA pA _ dc _ pc W1 (Left Fr W w db D) ⟨hA.disk.less fun _ hk => .inl hk, hA.stay⟩).mono fun e W' hO => hmono hO (by unfold Step.on; rw [if_neg k0, if_neg k1, if_neg k2, if_neg k3, if_neg k4, if_neg k5, if_neg k6])

end Go.Proofs.Ytnjjjalenhbicaa.Disk
