/-
  Put together out of texts of one chain: what they hold stands ahead of each.
-/
import Derived.Test.YtmegiilkcidanaaGDiskCopies16
import Derived.Test.YtmegiilkcidanaaGDiskCopies03
import Derived.Lib.SliceRun
import Derived.Deep.RegionWith
import Derived.Test.YtmegiilkcidanaaGDiskCopies08
import Derived.Deep.RegionHeld3
import Derived.Deep.RegionLaw
/-
  Two disks and two of the document's, each pair in blocks of its own; the document's disk alone beside a pair.
-/
namespace Go.Proofs.Ytmegiilkcidanaa.Disk
open Go Go.RowKit Go.Sort Go.Lib Go.Proofs.Ytmegiilkcidanaa.Law

/-- A pair of disks, both as D, that lives in the blocks F. -/
structure Lives (F : Nat → Prop) (w : World) (db q : Nat) (D : DS) (W : World) : Prop where
  ex : ∃ O R, DiskAt W O db D ∧ WF D ∧ RefAt R w.heap.size q D W ∧ (∀ k, O k ≠ none → F k) ∧ (∀ k, R k → F k) ∧ ∀ k, R k → O k = none
  inn : ∀ k, F k → w.heap.size ≤ k ∧ k < W.heap.size

variable {F G K : Nat → Prop} {w W W' : World} {db q dc n : Nat} {D D' E : DS}

theorem Lives.keep (h : Lives F w db q D W) (hS : SameOn F W W') : Lives F w db q D W' := by
  obtain ⟨⟨O, R, h1, h2, h3, h4, h5, h6⟩, h7⟩ := h
  exact ⟨⟨O, R, h1.keep hS.2 (fun k _ ho => hS.1 k (h4 k ho)), h2, h3.keep (fun k hk => hS.1 k (h5 k hk)) hS.2, h4, h5, h6⟩, fun k hk => ⟨(h7 k hk).1, Nat.lt_of_lt_of_le (h7 k hk).2 hS.2⟩⟩
theorem Lives.both (h : Lives F w db q D W) (hB : Below w.heap.size w W) (hK : ∀ k, K k → w.heap.size ≤ k ∧ k < W.heap.size ∧ ¬ F k) : Both K w db q D D W := by
  obtain ⟨⟨O, R, h1, h2, h3, h4, h5, h6⟩, h7⟩ := h
  refine ⟨R, ⟨O, h1, fun k hk => Classical.byContradiction fun e => by have := (h7 k (h4 k e)).1; omega, hB, h2, fun k hk => ?_⟩, h3, fun k hk hR => (hK k hk).2.2 (h5 k hR)⟩
  rcases hk with hk | hk
  · exact ⟨(h7 k (h5 k hk)).1, (h7 k (h5 k hk)).2, h6 k hk⟩
  · exact ⟨(hK k hk).1, (hK k hk).2.1, Classical.byContradiction fun e => (hK k hk).2.2 (h4 k e)⟩
theorem Both.lives (h : Both K w db q D D W) : Lives (fun k => w.heap.size ≤ k ∧ k < W.heap.size ∧ ¬ K k) w db q D W := by
  obtain ⟨R, ⟨O, h1, h2, h3, h4, h5⟩, h6, h7⟩ := h
  refine ⟨⟨O, R, h1, h4, h6, fun k ho => ⟨?_, h1.lt k ho, fun hk => ho (h5 k (.inr hk)).2.2⟩, fun k hk => ⟨(h5 k (.inl hk)).1, (h5 k (.inl hk)).2.1, fun e => h7 k e hk⟩, fun k hk => (h5 k (.inl hk)).2.2⟩, fun k hk => ⟨hk.1, hk.2.1⟩⟩
  exact Classical.byContradiction fun e => ho (h2 k (by omega))

/-- Two pairs, each in blocks of its own. -/
def Quad (w : World) (db q dc n : Nat) (D E : DS) (W : World) : Prop := Below w.heap.size w W ∧ ∃ F G, Lives F w db q D W ∧ Lives G w dc n E W ∧ ∀ k, F k → ¬ G k
theorem Quad.low (h : Quad w db q dc n D E W) : Below w.heap.size w W := h.1
theorem Quad.swap (h : Quad w db q dc n D E W) : Quad w dc n db q E D W := by
  obtain ⟨h0, F, G, h1, h2, h3⟩ := h
  exact ⟨h0, G, F, h2, h1, fun k hg hf => h3 k hf hg⟩
theorem Quad.below (h : Quad w db q dc n D E W) (hB : Below W.heap.size W W') : Quad w db q dc n D E W' := by
  obtain ⟨h0, F, G, h1, h2, h3⟩ := h
  exact ⟨h0.trans (hB.mono h0.size), F, G, h1.keep ⟨fun k hk => hB.block k (h1.inn k hk).2, hB.size⟩, h2.keep ⟨fun k hk => hB.block k (h2.inn k hk).2, hB.size⟩, h3⟩
/-- A call of the first pair. -/
theorem Quad.first (h : Quad w db q dc n D E W) {f : FuncId} {av : Array Value} {P : Ending → Prop}
    (hf : ∀ K : Nat → Prop, Both K w db q D D W → Calls Try.prog f av W fun e W' => P e ∧ Stood K w db q D' W W') :
    Calls Try.prog f av W fun e W' => P e ∧ Quad w db q dc n D' E W' := by
  obtain ⟨hB, F, G, h1, h2, h3⟩ := h
  refine (hf G (h1.both hB fun k hk => ⟨(h2.inn k hk).1, (h2.inn k hk).2, fun e => h3 k e hk⟩)).mono ?_
  rintro e W' ⟨he, hS, hO⟩
  exact ⟨he, hS.low, _, G, hS.lives, h2.keep hO, fun k hk => hk.2.2⟩
theorem Quad.second (h : Quad w db q dc n D E W) {f : FuncId} {av : Array Value} {P : Ending → Prop}
    (hf : ∀ K : Nat → Prop, Both K w dc n E E W → Calls Try.prog f av W fun e W' => P e ∧ Stood K w dc n D' W W') :
    Calls Try.prog f av W fun e W' => P e ∧ Quad w db q dc n D D' W' :=
  (h.swap.first hf).mono fun _ _ h => ⟨h.1, h.2.swap⟩

/-- A pair as D, and another of the document's disks as D alone. -/
def Tri (w : World) (db q n : Nat) (D : DS) (W : World) : Prop := ∃ R2, Both R2 w db q D D W ∧ RefAt R2 w.heap.size n D W
/-- The same, where the pair is ahead by a step. -/
def Tri2 (w : World) (db q n : Nat) (D D' : DS) (W : World) : Prop := ∃ R2, Both R2 w db q D D W ∧ RefAt R2 w.heap.size n D' W
theorem Tri2.low {n : Nat} (h : Tri2 w db q n D D' W) : Below w.heap.size w W := by obtain ⟨R2, h, _⟩ := h; exact h.low
theorem Tri2.below {n : Nat} (h : Tri2 w db q n D D' W) (hB : Below W.heap.size W W') : Tri2 w db q n D D' W' := by
  obtain ⟨R2, h1, h2⟩ := h
  exact ⟨R2, h1.below hB, h2.below hB⟩
theorem Tri2.first {n : Nat} (h : Tri2 w db q n D E W) {f : FuncId} {av : Array Value} {P : Ending → Prop}
    (hf : ∀ K : Nat → Prop, Both K w db q D D W → Calls Try.prog f av W fun e W' => P e ∧ Stood K w db q D' W W') :
    Calls Try.prog f av W fun e W' => P e ∧ Tri2 w db q n D' E W' := by
  obtain ⟨R2, h1, h2⟩ := h
  refine (hf R2 h1).mono ?_
  rintro e W' ⟨he, hS, hO⟩
  exact ⟨he, R2, hS, h2.keep hO.1 hO.2⟩
/-- Blocks that are none of the pair's turned. -/
theorem Both.aside (h : Both K w db q D D' W) (hO : Only K W W') : Both (More K W W') w db q D D' W' := by
  obtain ⟨R, h1, h2, h3⟩ := h
  refine ⟨R, (h1.turn_add (hO.more fun _ hk => .inr hk)).less fun k hk => ?_, h2.keep (fun k hk => hO.same k (h2.lt k hk) fun e => h3 k e hk) hO.size, fun k hk hR => ?_⟩
  · rcases hk with hk | hk | hk
    · exact .inl (.inl hk)
    · exact .inl (.inr hk)
    · exact .inr hk
  · rcases hk with hk | hk
    · exact h3 k hk hR
    · have := h2.lt k hR; omega
theorem Tri2.alone {n : Nat} (h : Tri2 w db q n D E W) {f : FuncId} {av : Array Value} {P : Ending → Prop}
    (hf : ∀ R : Nat → Prop, RefAt R w.heap.size n E W → Calls Try.prog f av W fun e W' => P e ∧ RefAt (More R W W') w.heap.size n D' W' ∧ Only R W W') :
    Calls Try.prog f av W fun e W' => P e ∧ Tri2 w db q n D D' W' := by
  obtain ⟨R2, h1, h2⟩ := h
  refine (hf R2 h2).mono ?_
  rintro e W' ⟨he, hR, hO⟩
  exact ⟨he, _, h1.aside hO, hR⟩

/-- What a law's twin leaves of the document's disk. -/
def TwinO (R : Nat → Prop) (base n : Nat) (D : DS) (w : World) (e : Ending) (W : World) : Prop := e = .returned (.tuple #[]) ∧ RefAt (More R w W) base n D W ∧ Only R w W
theorem Only.of_below {R : Nat → Prop} (hB : Below W.heap.size W W') : Only R W W' := ⟨hB.os, hB.tape, hB.output, hB.size, fun k hk _ => hB.block k hk⟩
theorem Only.then {R : Nat → Prop} {a b c : World} (h : Only R a b) (k : Only R b c) : Only R a c := ⟨k.os.trans h.os, k.tape.trans h.tape, k.output.trans h.output, Nat.le_trans h.size k.size, fun j hj hn => (k.same j (Nat.lt_of_lt_of_le hj h.size) hn).trans (h.same j hj hn)⟩
/-- .. from a world that the step's box is laid in. -/
theorem TwinO.boxed {R : Nat → Prop} {base n : Nat} {D : DS} {a w W : World} (hB : Below a.heap.size a w) (hR : RefAt (More R w W) base n D W) (hO : Only R w W) : RefAt (More R a W) base n D W ∧ Only R a W := by
  refine ⟨hR.more (fun k hk => ?_) (fun k hk => ?_), (Only.of_below hB).then hO⟩
  · rcases hk with hk | hk
    · exact .inl hk
    · exact .inr ⟨Nat.le_trans hB.size hk.1, hk.2⟩
  · rcases hk with hk | hk
    · exact hR.lt k (.inl hk)
    · exact hk.2

end Go.Proofs.Ytmegiilkcidanaa.Disk

/-
  The law's `twin`: a step that is done to the document's disk alone.
-/
namespace Go.Proofs.Ytmegiilkcidanaa.Disk
open Go Go.RowKit Go.Sort Go.Lib Go.Proofs.Ytmegiilkcidanaa.Law

variable {R : Nat → Prop} {base n : Nat} {D : DS} {W : World}

set_option maxRecDepth 100000 in
set_option maxHeartbeats 2000000 in
theorem twin_write (h : RefAt R base n D W) (hmade : D.made ≤ 100000) (s : Step) (h0 : s.kind = 0) (hs : s.fits) (dA pA : Option Addr) (dl dc pl pc : Nat) (hD : Bytes base W (.slice dA dl dc) s.data) (hP : Ints (fun b => b < base) W (.slice pA pl pc) s.picks) :
    Calls Try.prog 18 #[.pointer (some ⟨n, 0, none⟩), stepV s (.slice dA dl dc) (.slice pA pl pc)] W (TwinO R base n (s.on D) W) := by
  have hbx := boxS_new W s (.slice dA dl dc) (.slice pA pl pc)
  have hB : Below W.heap.size W (boxS W s (.slice dA dl dc) (.slice pA pl pc)) := (Below.refl _ _).alloc (Nat.le_refl _) _
  obtain ⟨w1, hw1⟩ : ∃ w1, boxS W s (.slice dA dl dc) (.slice pA pl pc) = w1 := ⟨_, rfl⟩
  have hw1' : W.alloc (.cells #[.int .i64 s.kind, .string s.name, .int .i64 s.at', .slice dA dl dc, .slice pA pl pc] 37) = w1 := hw1
  rw [hw1] at hbx hB
  have hr := h.below hB
  have hbs : base ≤ W.heap.size := by
    obtain ⟨_, _, _, _, _, _, hr0⟩ := h
    exact hr0.base_le
  have hD1 : Bytes base w1 (.slice dA dl dc) s.data := hD.below (hB.mono hbs)
  have hP1 : Ints (fun b => b < base) w1 (.slice pA pl pc) s.picks := hP.at fun b hb => hB.block b (Nat.lt_of_lt_of_le hb hbs)
  obtain ⟨b, hb⟩ : ∃ b, W.heap.size = b := ⟨_, rfl⟩
  rw [hb] at hbx
  have hc0 : w1.cell? ⟨b, 0, none⟩ = some (.int .i64 0) := by simp [World.cell?, hbx, h0]
  have e : s.on D = D.write s.name s.at' (str s.data) := by unfold Step.on; simp [h0]
  rw [e]
  have CA := Lib.hid ((hr.write hmade s.name hs.name s.at' _ s.data hs.data hD1).mono fun e W2 hO => (⟨hO.1, rfl, TwinO.boxed hB hO.2.1 hO.2.2⟩ : _ ∧ TwinO R base n _ W (.returned (.tuple #[])) W2))
  obtain ⟨c1, c2, c3, c4, cb⟩ := Boxed.of hbx
  have HW1 := Lib.hid hw1'
  clear h hbx hw1 hw1' h0 hB hr hD hP hD1 hP1 hs hbs
  unfold stepV
  go_enter Try.func18, Try.ntmps18
  go_upto_region 1 with fail
  rw [HW1.out]
  go_wp2_with fail
  refine CA.out.mono ?_
  rintro e W2 ⟨rfl, hF⟩
  have HF := Lib.hid hF
  clear hF CA
  go_wp2_with fail
  go_end0
  exact HF.out


set_option maxRecDepth 100000 in
set_option maxHeartbeats 2000000 in
theorem twin_cut (h : RefAt R base n D W) (hmade : D.made ≤ 100000) (s : Step) (h0 : s.kind = 1) (hs : s.fits) (dA pA : Option Addr) (dl dc pl pc : Nat) (hD : Bytes base W (.slice dA dl dc) s.data) (hP : Ints (fun b => b < base) W (.slice pA pl pc) s.picks) :
    Calls Try.prog 18 #[.pointer (some ⟨n, 0, none⟩), stepV s (.slice dA dl dc) (.slice pA pl pc)] W (TwinO R base n (s.on D) W) := by
  have hbx := boxS_new W s (.slice dA dl dc) (.slice pA pl pc)
  have hB : Below W.heap.size W (boxS W s (.slice dA dl dc) (.slice pA pl pc)) := (Below.refl _ _).alloc (Nat.le_refl _) _
  obtain ⟨w1, hw1⟩ : ∃ w1, boxS W s (.slice dA dl dc) (.slice pA pl pc) = w1 := ⟨_, rfl⟩
  have hw1' : W.alloc (.cells #[.int .i64 s.kind, .string s.name, .int .i64 s.at', .slice dA dl dc, .slice pA pl pc] 37) = w1 := hw1
  rw [hw1] at hbx hB
  have hr := h.below hB
  have hbs : base ≤ W.heap.size := by
    obtain ⟨_, _, _, _, _, _, hr0⟩ := h
    exact hr0.base_le
  have hD1 : Bytes base w1 (.slice dA dl dc) s.data := hD.below (hB.mono hbs)
  have hP1 : Ints (fun b => b < base) w1 (.slice pA pl pc) s.picks := hP.at fun b hb => hB.block b (Nat.lt_of_lt_of_le hb hbs)
  obtain ⟨b, hb⟩ : ∃ b, W.heap.size = b := ⟨_, rfl⟩
  rw [hb] at hbx
  have hc0 : w1.cell? ⟨b, 0, none⟩ = some (.int .i64 1) := by simp [World.cell?, hbx, h0]
  have e : s.on D = D.cut s.name s.at' := by unfold Step.on; simp [h0]
  rw [e]
  have CA := Lib.hid ((hr.cut hmade s.name hs.name s.at').mono fun e W2 hO => (⟨hO.1, rfl, TwinO.boxed hB hO.2.1 hO.2.2⟩ : _ ∧ TwinO R base n _ W (.returned (.tuple #[])) W2))
  obtain ⟨c1, c2, c3, c4, cb⟩ := Boxed.of hbx
  have HW1 := Lib.hid hw1'
  clear h hbx hw1 hw1' h0 hB hr hD hP hD1 hP1 hs hbs
  unfold stepV
  go_enter Try.func18, Try.ntmps18
  go_upto_region 1 with fail
  rw [HW1.out]
  go_wp2_with fail
  refine CA.out.mono ?_
  rintro e W2 ⟨rfl, hF⟩
  have HF := Lib.hid hF
  clear hF CA
  go_wp2_with fail
  go_end0
  exact HF.out


set_option maxRecDepth 100000 in
set_option maxHeartbeats 2000000 in
theorem twin_remove (h : RefAt R base n D W) (hmade : D.made ≤ 100000) (s : Step) (h0 : s.kind = 2) (hs : s.fits) (dA pA : Option Addr) (dl dc pl pc : Nat) (hD : Bytes base W (.slice dA dl dc) s.data) (hP : Ints (fun b => b < base) W (.slice pA pl pc) s.picks) :
    Calls Try.prog 18 #[.pointer (some ⟨n, 0, none⟩), stepV s (.slice dA dl dc) (.slice pA pl pc)] W (TwinO R base n (s.on D) W) := by
  have hbx := boxS_new W s (.slice dA dl dc) (.slice pA pl pc)
  have hB : Below W.heap.size W (boxS W s (.slice dA dl dc) (.slice pA pl pc)) := (Below.refl _ _).alloc (Nat.le_refl _) _
  obtain ⟨w1, hw1⟩ : ∃ w1, boxS W s (.slice dA dl dc) (.slice pA pl pc) = w1 := ⟨_, rfl⟩
  have hw1' : W.alloc (.cells #[.int .i64 s.kind, .string s.name, .int .i64 s.at', .slice dA dl dc, .slice pA pl pc] 37) = w1 := hw1
  rw [hw1] at hbx hB
  have hr := h.below hB
  have hbs : base ≤ W.heap.size := by
    obtain ⟨_, _, _, _, _, _, hr0⟩ := h
    exact hr0.base_le
  have hD1 : Bytes base w1 (.slice dA dl dc) s.data := hD.below (hB.mono hbs)
  have hP1 : Ints (fun b => b < base) w1 (.slice pA pl pc) s.picks := hP.at fun b hb => hB.block b (Nat.lt_of_lt_of_le hb hbs)
  obtain ⟨b, hb⟩ : ∃ b, W.heap.size = b := ⟨_, rfl⟩
  rw [hb] at hbx
  have hc0 : w1.cell? ⟨b, 0, none⟩ = some (.int .i64 2) := by simp [World.cell?, hbx, h0]
  have e : s.on D = D.remove s.name := by unfold Step.on; simp [h0]
  rw [e]
  have CA := Lib.hid ((hr.remove hmade s.name hs.name).mono fun e W2 hO => (⟨hO.1, rfl, TwinO.boxed hB hO.2.1 hO.2.2⟩ : _ ∧ TwinO R base n _ W (.returned (.tuple #[])) W2))
  obtain ⟨c1, c2, c3, c4, cb⟩ := Boxed.of hbx
  have HW1 := Lib.hid hw1'
  clear h hbx hw1 hw1' h0 hB hr hD hP hD1 hP1 hs hbs
  unfold stepV
  go_enter Try.func18, Try.ntmps18
  go_upto_region 1 with fail
  rw [HW1.out]
  go_wp2_with fail
  refine CA.out.mono ?_
  rintro e W2 ⟨rfl, hF⟩
  have HF := Lib.hid hF
  clear hF CA
  go_wp2_with fail
  go_end0
  exact HF.out


set_option maxRecDepth 100000 in
set_option maxHeartbeats 2000000 in
theorem twin_sync (h : RefAt R base n D W) (hmade : D.made ≤ 100000) (s : Step) (h0 : s.kind = 3) (hs : s.fits) (dA pA : Option Addr) (dl dc pl pc : Nat) (hD : Bytes base W (.slice dA dl dc) s.data) (hP : Ints (fun b => b < base) W (.slice pA pl pc) s.picks) :
    Calls Try.prog 18 #[.pointer (some ⟨n, 0, none⟩), stepV s (.slice dA dl dc) (.slice pA pl pc)] W (TwinO R base n (s.on D) W) := by
  have hbx := boxS_new W s (.slice dA dl dc) (.slice pA pl pc)
  have hB : Below W.heap.size W (boxS W s (.slice dA dl dc) (.slice pA pl pc)) := (Below.refl _ _).alloc (Nat.le_refl _) _
  obtain ⟨w1, hw1⟩ : ∃ w1, boxS W s (.slice dA dl dc) (.slice pA pl pc) = w1 := ⟨_, rfl⟩
  have hw1' : W.alloc (.cells #[.int .i64 s.kind, .string s.name, .int .i64 s.at', .slice dA dl dc, .slice pA pl pc] 37) = w1 := hw1
  rw [hw1] at hbx hB
  have hr := h.below hB
  have hbs : base ≤ W.heap.size := by
    obtain ⟨_, _, _, _, _, _, hr0⟩ := h
    exact hr0.base_le
  have hD1 : Bytes base w1 (.slice dA dl dc) s.data := hD.below (hB.mono hbs)
  have hP1 : Ints (fun b => b < base) w1 (.slice pA pl pc) s.picks := hP.at fun b hb => hB.block b (Nat.lt_of_lt_of_le hb hbs)
  obtain ⟨b, hb⟩ : ∃ b, W.heap.size = b := ⟨_, rfl⟩
  rw [hb] at hbx
  have hc0 : w1.cell? ⟨b, 0, none⟩ = some (.int .i64 3) := by simp [World.cell?, hbx, h0]
  have e : s.on D = D.sync s.name := by unfold Step.on; simp [h0]
  rw [e]
  have CA := Lib.hid ((hr.sync hmade s.name hs.name).mono fun e W2 hO => (⟨hO.1, rfl, TwinO.boxed hB hO.2.1 hO.2.2⟩ : _ ∧ TwinO R base n _ W (.returned (.tuple #[])) W2))
  obtain ⟨c1, c2, c3, c4, cb⟩ := Boxed.of hbx
  have HW1 := Lib.hid hw1'
  clear h hbx hw1 hw1' h0 hB hr hD hP hD1 hP1 hs hbs
  unfold stepV
  go_enter Try.func18, Try.ntmps18
  go_upto_region 1 with fail
  rw [HW1.out]
  go_wp2_with fail
  refine CA.out.mono ?_
  rintro e W2 ⟨rfl, hF⟩
  have HF := Lib.hid hF
  clear hF CA
  go_wp2_with fail
  go_end0
  exact HF.out


set_option maxRecDepth 100000 in
set_option maxHeartbeats 2000000 in
theorem twin_crash (h : RefAt R base n D W) (hmade : D.made ≤ 100000) (s : Step) (h0 : s.kind = 4) (dA pA : Option Addr) (dl dc pl pc : Nat) (hD : Bytes base W (.slice dA dl dc) s.data) (hP : Ints (fun b => b < base) W (.slice pA pl pc) s.picks) :
    Calls Try.prog 18 #[.pointer (some ⟨n, 0, none⟩), stepV s (.slice dA dl dc) (.slice pA pl pc)] W (TwinO R base n (s.on D) W) := by
  have hbx := boxS_new W s (.slice dA dl dc) (.slice pA pl pc)
  have hB : Below W.heap.size W (boxS W s (.slice dA dl dc) (.slice pA pl pc)) := (Below.refl _ _).alloc (Nat.le_refl _) _
  obtain ⟨w1, hw1⟩ : ∃ w1, boxS W s (.slice dA dl dc) (.slice pA pl pc) = w1 := ⟨_, rfl⟩
  have hw1' : W.alloc (.cells #[.int .i64 s.kind, .string s.name, .int .i64 s.at', .slice dA dl dc, .slice pA pl pc] 37) = w1 := hw1
  rw [hw1] at hbx hB
  have hr := h.below hB
  have hbs : base ≤ W.heap.size := by
    obtain ⟨_, _, _, _, _, _, hr0⟩ := h
    exact hr0.base_le
  have hD1 : Bytes base w1 (.slice dA dl dc) s.data := hD.below (hB.mono hbs)
  have hP1 : Ints (fun b => b < base) w1 (.slice pA pl pc) s.picks := hP.at fun b hb => hB.block b (Nat.lt_of_lt_of_le hb hbs)
  obtain ⟨b, hb⟩ : ∃ b, W.heap.size = b := ⟨_, rfl⟩
  rw [hb] at hbx
  have hc0 : w1.cell? ⟨b, 0, none⟩ = some (.int .i64 4) := by simp [World.cell?, hbx, h0]
  have e : s.on D = D.crash s.picks := by unfold Step.on; simp [h0]
  rw [e]
  have CA := Lib.hid ((hr.crash hmade _ s.picks hP1).mono fun e W2 hO => (⟨hO.1, rfl, TwinO.boxed hB hO.2.1 hO.2.2⟩ : _ ∧ TwinO R base n _ W (.returned (.tuple #[])) W2))
  obtain ⟨c1, c2, c3, c4, cb⟩ := Boxed.of hbx
  have HW1 := Lib.hid hw1'
  clear h hbx hw1 hw1' h0 hB hr hD hP hD1 hP1 hbs
  unfold stepV
  go_enter Try.func18, Try.ntmps18
  go_upto_region 1 with fail
  rw [HW1.out]
  go_wp2_with fail
  refine CA.out.mono ?_
  rintro e W2 ⟨rfl, hF⟩
  have HF := Lib.hid hF
  clear hF CA
  go_wp2_with fail
  go_end0
  exact HF.out


set_option maxRecDepth 100000 in
set_option maxHeartbeats 2000000 in
theorem twin_fail (h : RefAt R base n D W) (s : Step) (h0 : s.kind = 5) (dA pA : Option Addr) (dl dc pl pc : Nat) (hD : Bytes base W (.slice dA dl dc) s.data) (hP : Ints (fun b => b < base) W (.slice pA pl pc) s.picks) :
    Calls Try.prog 18 #[.pointer (some ⟨n, 0, none⟩), stepV s (.slice dA dl dc) (.slice pA pl pc)] W (TwinO R base n (s.on D) W) := by
  have hbx := boxS_new W s (.slice dA dl dc) (.slice pA pl pc)
  have hB : Below W.heap.size W (boxS W s (.slice dA dl dc) (.slice pA pl pc)) := (Below.refl _ _).alloc (Nat.le_refl _) _
  obtain ⟨w1, hw1⟩ : ∃ w1, boxS W s (.slice dA dl dc) (.slice pA pl pc) = w1 := ⟨_, rfl⟩
  have hw1' : W.alloc (.cells #[.int .i64 s.kind, .string s.name, .int .i64 s.at', .slice dA dl dc, .slice pA pl pc] 37) = w1 := hw1
  rw [hw1] at hbx hB
  have hr := h.below hB
  have hbs : base ≤ W.heap.size := by
    obtain ⟨_, _, _, _, _, _, hr0⟩ := h
    exact hr0.base_le
  have hD1 : Bytes base w1 (.slice dA dl dc) s.data := hD.below (hB.mono hbs)
  have hP1 : Ints (fun b => b < base) w1 (.slice pA pl pc) s.picks := hP.at fun b hb => hB.block b (Nat.lt_of_lt_of_le hb hbs)
  obtain ⟨b, hb⟩ : ∃ b, W.heap.size = b := ⟨_, rfl⟩
  rw [hb] at hbx
  have hc0 : w1.cell? ⟨b, 0, none⟩ = some (.int .i64 5) := by simp [World.cell?, hbx, h0]
  have e : s.on D = D.fail (decide (s.at' ≠ 0)) := by unfold Step.on; simp [h0]
  rw [e]
  obtain ⟨e4, e5⟩ := hr.fail (decide (s.at' ≠ 0))
  have HF : Hid (TwinO R base n (D.fail (decide (s.at' ≠ 0))) W (.returned (.tuple #[])) (w1.setCell ⟨n, 1, none⟩ (.bool (decide (s.at' ≠ 0))))) := Lib.hid ⟨rfl, TwinO.boxed hB (e4.more (fun k hk => .inl hk) fun k hk => hk.elim (e4.lt k) (·.2)) e5⟩
  obtain ⟨room, fails, nv, sv, cv, hRD⟩ := hr.rd
  obtain ⟨⟨_, r1, _⟩, rf⟩ := hRD.cells
  have rf1 := rf 1
  have hd : ((s.at' : Int) != 0) = decide (s.at' ≠ 0) := by by_cases h : s.at' = 0 <;> simp [h]
  obtain ⟨t, ht⟩ : ∃ t, decide (s.at' ≠ 0) = t := ⟨_, rfl⟩
  rw [ht] at HF hd ⊢
  clear e e4 e5 hRD rf ht
  obtain ⟨c1, c2, c3, c4, cb⟩ := Boxed.of hbx
  have HW1 := Lib.hid hw1'
  clear h hbx hw1 hw1' h0 hB hr hD hP hD1 hP1 hbs
  unfold stepV
  go_enter Try.func18, Try.ntmps18
  go_upto_region 1 with fail
  rw [HW1.out]
  go_wp2_with fail
  first
    | (go_end0; exact HF.out)
    | (go_end0; simpa only [hd] using HF.out)


set_option maxRecDepth 100000 in
set_option maxHeartbeats 2000000 in
theorem twin_limit (h : RefAt R base n D W) (s : Step) (h0 : s.kind = 6) (dA pA : Option Addr) (dl dc pl pc : Nat) (hD : Bytes base W (.slice dA dl dc) s.data) (hP : Ints (fun b => b < base) W (.slice pA pl pc) s.picks) (hlim : 0 ≤ s.at' ∧ s.at' ≤ 1073741824) :
    Calls Try.prog 18 #[.pointer (some ⟨n, 0, none⟩), stepV s (.slice dA dl dc) (.slice pA pl pc)] W (TwinO R base n (s.on D) W) := by
  have hbx := boxS_new W s (.slice dA dl dc) (.slice pA pl pc)
  have hB : Below W.heap.size W (boxS W s (.slice dA dl dc) (.slice pA pl pc)) := (Below.refl _ _).alloc (Nat.le_refl _) _
  obtain ⟨w1, hw1⟩ : ∃ w1, boxS W s (.slice dA dl dc) (.slice pA pl pc) = w1 := ⟨_, rfl⟩
  have hw1' : W.alloc (.cells #[.int .i64 s.kind, .string s.name, .int .i64 s.at', .slice dA dl dc, .slice pA pl pc] 37) = w1 := hw1
  rw [hw1] at hbx hB
  have hr := h.below hB
  have hbs : base ≤ W.heap.size := by
    obtain ⟨_, _, _, _, _, _, hr0⟩ := h
    exact hr0.base_le
  have hD1 : Bytes base w1 (.slice dA dl dc) s.data := hD.below (hB.mono hbs)
  have hP1 : Ints (fun b => b < base) w1 (.slice pA pl pc) s.picks := hP.at fun b hb => hB.block b (Nat.lt_of_lt_of_le hb hbs)
  obtain ⟨b, hb⟩ : ∃ b, W.heap.size = b := ⟨_, rfl⟩
  rw [hb] at hbx
  have hc0 : w1.cell? ⟨b, 0, none⟩ = some (.int .i64 6) := by simp [World.cell?, hbx, h0]
  have e : s.on D = D.limit s.at' := by unfold Step.on; simp [h0]
  rw [e]
  obtain ⟨e4, e5⟩ := hr.limit hlim
  have HF : Hid (TwinO R base n (D.limit s.at') W (.returned (.tuple #[])) (w1.setCell ⟨n, 0, none⟩ (.int .i64 s.at'))) := Lib.hid ⟨rfl, TwinO.boxed hB (e4.more (fun k hk => .inl hk) fun k hk => hk.elim (e4.lt k) (·.2)) e5⟩
  obtain ⟨room, fails, nv, sv, cv, hRD⟩ := hr.rd
  obtain ⟨⟨r0, _⟩, rf⟩ := hRD.cells
  have rf0 := rf 0
  obtain ⟨l1, l2⟩ := hlim
  clear e e4 e5 hRD rf
  obtain ⟨c1, c2, c3, c4, cb⟩ := Boxed.of hbx
  have HW1 := Lib.hid hw1'
  clear h hbx hw1 hw1' h0 hB hr hD hP hD1 hP1 hbs
  unfold stepV
  go_enter Try.func18, Try.ntmps18
  go_upto_region 1 with fail
  rw [HW1.out]
  go_wp2_with fail
  go_end0
  exact HF.out


set_option maxRecDepth 100000 in
set_option maxHeartbeats 2000000 in
theorem twin_limit_no (h : RefAt R base n D W) (s : Step) (h0 : s.kind = 6) (dA pA : Option Addr) (dl dc pl pc : Nat) (hD : Bytes base W (.slice dA dl dc) s.data) (hP : Ints (fun b => b < base) W (.slice pA pl pc) s.picks) (hlim : ¬ (0 ≤ s.at' ∧ s.at' ≤ 1073741824)) :
    Calls Try.prog 18 #[.pointer (some ⟨n, 0, none⟩), stepV s (.slice dA dl dc) (.slice pA pl pc)] W (TwinO R base n (s.on D) W) := by
  have hbx := boxS_new W s (.slice dA dl dc) (.slice pA pl pc)
  have hB : Below W.heap.size W (boxS W s (.slice dA dl dc) (.slice pA pl pc)) := (Below.refl _ _).alloc (Nat.le_refl _) _
  obtain ⟨w1, hw1⟩ : ∃ w1, boxS W s (.slice dA dl dc) (.slice pA pl pc) = w1 := ⟨_, rfl⟩
  have hw1' : W.alloc (.cells #[.int .i64 s.kind, .string s.name, .int .i64 s.at', .slice dA dl dc, .slice pA pl pc] 37) = w1 := hw1
  rw [hw1] at hbx hB
  have hr := h.below hB
  have hbs : base ≤ W.heap.size := by
    obtain ⟨_, _, _, _, _, _, hr0⟩ := h
    exact hr0.base_le
  have hD1 : Bytes base w1 (.slice dA dl dc) s.data := hD.below (hB.mono hbs)
  have hP1 : Ints (fun b => b < base) w1 (.slice pA pl pc) s.picks := hP.at fun b hb => hB.block b (Nat.lt_of_lt_of_le hb hbs)
  obtain ⟨b, hb⟩ : ∃ b, W.heap.size = b := ⟨_, rfl⟩
  rw [hb] at hbx
  have hc0 : w1.cell? ⟨b, 0, none⟩ = some (.int .i64 6) := by simp [World.cell?, hbx, h0]
  have e : s.on D = D := by unfold Step.on DS.limit; simp only [h0]; rw [if_neg hlim]; simp
  rw [e]
  have HF : Hid (TwinO R base n D W (.returned (.tuple #[])) w1) := Lib.hid ⟨rfl, TwinO.boxed hB (hr.more (fun k hk => .inl hk) fun k hk => hk.elim (hr.lt k) (·.2)) (Only.of_below (Below.refl _ _))⟩
  clear e
  obtain ⟨c1, c2, c3, c4, cb⟩ := Boxed.of hbx
  have HW1 := Lib.hid hw1'
  clear h hbx hw1 hw1' h0 hB hr hD hP hD1 hP1 hbs
  unfold stepV
  go_enter Try.func18, Try.ntmps18
  go_upto_region 1 with fail
  rw [HW1.out]
  rcases (show s.at' < 0 ∨ (0 ≤ s.at' ∧ 1073741824 < s.at') by omega) with hr1 | ⟨hr1, hr2⟩
  all_goals
    clear hlim
    go_wp2_with fail
    go_end0
    exact HF.out


set_option maxRecDepth 100000 in
set_option maxHeartbeats 2000000 in
theorem twin_other (h : RefAt R base n D W) (s : Step) (h0 : s.kind < 0 ∨ 6 < s.kind) (dA pA : Option Addr) (dl dc pl pc : Nat) (hD : Bytes base W (.slice dA dl dc) s.data) (hP : Ints (fun b => b < base) W (.slice pA pl pc) s.picks) :
    Calls Try.prog 18 #[.pointer (some ⟨n, 0, none⟩), stepV s (.slice dA dl dc) (.slice pA pl pc)] W (TwinO R base n (s.on D) W) := by
  have hbx := boxS_new W s (.slice dA dl dc) (.slice pA pl pc)
  have hB : Below W.heap.size W (boxS W s (.slice dA dl dc) (.slice pA pl pc)) := (Below.refl _ _).alloc (Nat.le_refl _) _
  obtain ⟨w1, hw1⟩ : ∃ w1, boxS W s (.slice dA dl dc) (.slice pA pl pc) = w1 := ⟨_, rfl⟩
  have hw1' : W.alloc (.cells #[.int .i64 s.kind, .string s.name, .int .i64 s.at', .slice dA dl dc, .slice pA pl pc] 37) = w1 := hw1
  rw [hw1] at hbx hB
  have hr := h.below hB
  have hbs : base ≤ W.heap.size := by
    obtain ⟨_, _, _, _, _, _, hr0⟩ := h
    exact hr0.base_le
  have hD1 : Bytes base w1 (.slice dA dl dc) s.data := hD.below (hB.mono hbs)
  have hP1 : Ints (fun b => b < base) w1 (.slice pA pl pc) s.picks := hP.at fun b hb => hB.block b (Nat.lt_of_lt_of_le hb hbs)
  obtain ⟨b, hb⟩ : ∃ b, W.heap.size = b := ⟨_, rfl⟩
  rw [hb] at hbx
  have hc0 : w1.cell? ⟨b, 0, none⟩ = some (.int .i64 s.kind) := by simp [World.cell?, hbx]
  have e : s.on D = D := by
    unfold Step.on
    rw [if_neg (by omega), if_neg (by omega), if_neg (by omega), if_neg (by omega), if_neg (by omega), if_neg (by omega), if_neg (by omega)]
  rw [e]
  have HF : Hid (TwinO R base n D W (.returned (.tuple #[])) w1) := Lib.hid ⟨rfl, TwinO.boxed hB (hr.more (fun k hk => .inl hk) fun k hk => hk.elim (hr.lt k) (·.2)) (Only.of_below (Below.refl _ _))⟩
  have e0 : (s.kind == 0) = false := by rw [beq_eq_false_iff_ne]; omega
  have e1 : (s.kind == 1) = false := by rw [beq_eq_false_iff_ne]; omega
  have e2 : (s.kind == 2) = false := by rw [beq_eq_false_iff_ne]; omega
  have e3 : (s.kind == 3) = false := by rw [beq_eq_false_iff_ne]; omega
  have e4 : (s.kind == 4) = false := by rw [beq_eq_false_iff_ne]; omega
  have e5 : (s.kind == 5) = false := by rw [beq_eq_false_iff_ne]; omega
  have e6 : (s.kind == 6) = false := by rw [beq_eq_false_iff_ne]; omega
  clear e
  obtain ⟨c1, c2, c3, c4, cb⟩ := Boxed.of hbx
  have HW1 := Lib.hid hw1'
  clear h hbx hw1 hw1' h0 hB hr hD hP hD1 hP1 hbs
  unfold stepV
  go_enter Try.func18, Try.ntmps18
  go_upto_region 1 with fail
  rw [HW1.out]
  go_wp2_with fail
  go_end0
  exact HF.out


theorem twin_calls (h : RefAt R base n D W) (hmade : D.made ≤ 100000) (s : Step) (hs : s.fits) (dv pv : Value) (hD : Bytes base W dv s.data) (hP : Ints (fun b => b < base) W pv s.picks) :
    Calls Try.prog 18 #[.pointer (some ⟨n, 0, none⟩), stepV s dv pv] W (TwinO R base n (s.on D) W) := by
  obtain ⟨dA, dc, rfl⟩ := hD.form
  obtain ⟨pA, pc, rfl, _⟩ := id hP
  by_cases k0 : s.kind = 0
  · exact twin_write h hmade s k0 hs dA pA _ dc _ pc hD hP
  by_cases k1 : s.kind = 1
  · exact twin_cut h hmade s k1 hs dA pA _ dc _ pc hD hP
  by_cases k2 : s.kind = 2
  · exact twin_remove h hmade s k2 hs dA pA _ dc _ pc hD hP
  by_cases k3 : s.kind = 3
  · exact twin_sync h hmade s k3 hs dA pA _ dc _ pc hD hP
  by_cases k4 : s.kind = 4
  · exact twin_crash h hmade s k4 dA pA _ dc _ pc hD hP
  by_cases k5 : s.kind = 5
  · exact twin_fail h s k5 dA pA _ dc _ pc hD hP
  by_cases k6 : s.kind = 6
  · by_cases hr : 0 ≤ s.at' ∧ s.at' ≤ 1073741824
    · exact twin_limit h s k6 dA pA _ dc _ pc hD hP hr
    · exact twin_limit_no h s k6 dA pA _ dc _ pc hD hP hr
  · exact twin_other h s (by omega) dA pA _ dc _ pc hD hP

end Go.Proofs.Ytmegiilkcidanaa.Disk

/-
  Contracts that the disk's Copy uses: changes that are cloned.
-/
namespace Go.Proofs.Ytmegiilkcidanaa.Disk
open Go Go.RowKit Go.Lib Go.Proofs.Ytmegiilkcidanaa.Law

/-- What a clone of changes leaves. -/
def CloneC (w : World) (l : List Chg) (e : Ending) (W : World) : Prop := ∃ A c, e = .returned (.slice A l.length c) ∧ OwnC W w.heap.size (.slice A l.length c) l ∧ Below w.heap.size w W

theorem OwnC.cellAt {W : World} {base g n cap : Nat} {l : List Chg} (h : OwnC W base (.slice (some ⟨g, 0, none⟩) n cap) l) {j : Nat} {u : Value} (hu : (flatC l)[j]? = some u) : W.cell? ⟨g, j, none⟩ = some u := by
  rcases h.2 with ⟨h0, _⟩ | ⟨g', cap', cur, hv, _, hg, hn, hcm, hcs, ht⟩
  · cases h0
  · simp only [Value.slice.injEq, Option.some.injEq, Addr.mk.injEq, and_true] at hv
    obtain ⟨rfl, rfl, rfl⟩ := hv
    have hj : j < l.length * 4 := by
      have := (List.getElem?_eq_some_iff.1 hu).1
      rwa [flatC_length] at this
    have h1 : (cur.toList.take (l.length * 4))[j]? = (flatC l)[j]? := by rw [ht]
    rw [List.getElem?_take_of_lt hj, Array.getElem?_toList, hu] at h1
    simp only [World.cell?, hg]
    exact h1

set_option maxRecDepth 100000 in
set_option maxHeartbeats 2000000 in
theorem cloneC_calls (w : World) (base : Nat) (v : Value) (l : List Chg) (h : OwnC w base v l) (hl : l.length ≤ 4294967296) : Calls Try.prog 45 #[v] w (CloneC w l) := by
  have q22 : ∀ (w : World) (a : Option Addr) (n c n' c' : Nat), (binOp .eql 76 (.slice a n c) (.slice none n' c')).run Try.prog w = .ok (.bool a.isNone) w := fun w a n c n' c' => Lib.run_eql_slice_nil w _ _ a n c n' c' Try.underlying76
  rcases id h.2 with ⟨rfl, h0⟩ | ⟨g, cap, cur, rfl, h1, h2, h3⟩
  · have hl0 : l = [] := List.eq_nil_of_length_eq_zero h0
    subst hl0
    have HF : Hid (CloneC w [] (.returned (.slice none 0 0)) w) := Lib.hid ⟨none, 0, rfl, OwnC.nil _ _, Below.refl _ _⟩
    clear h h0
    go_enter Try.func45, Try.ntmps45
    go_wp2
    go_ret
    exact HF.out
  · obtain ⟨i0, hi, hz0, hz1, hz2⟩ := info_parts info_change
    have hB : Below w.heap.size w (w.alloc (.cells #[] 86)) := (Below.refl _ _).alloc (Nat.le_refl _) _
    have h00 : (w.alloc (.cells #[] 86)).ownsRow w.heap.size 86 4 (.slice (some ⟨w.heap.size, 0, none⟩) 0 0) 0 [] := World.ownsRow_made (e := 86) (size := 4) w #[] 0 (Nat.le_refl _) (by simp [maxLen]) rfl
    have hgl := (h.own g rfl).2
    obtain ⟨v', w', hrun, h4, h5, _, h7⟩ := run_append_own_at (P := Try.prog) (w.alloc (.cells #[] 86)) w.heap.size 76 76 86 i0 _ 4 40 Try.underlying76 hi hz0 hz1 hz2 rfl (by decide) _ 0 [] h00 ⟨g, 0, none⟩ l.length cap (flatC l) (flatC_length l)
      (fun j u hu => by
        rw [Addr.add_lit, Nat.zero_add]
        exact (hB.cell (p := ⟨g, j, none⟩) hgl).trans (h.cellAt hu)) (flatC_one l) (by simp only [maxLen]; omega) (by omega) hB.size
    have hB7 : Below w.heap.size w w' := hB.grown h5 (by simp) (fun k hk => by simp only [Value.ownBlock, Option.some.injEq] at hk; omega)
    rw [Nat.zero_add, List.nil_append] at h4
    have hO : OwnC w' w.heap.size v' l := h4
    obtain ⟨Ax, cx, rfl⟩ := hO.form
    have HF : Hid (CloneC w l (.returned (.slice Ax l.length cx)) w') := Lib.hid ⟨Ax, cx, rfl, hO, hB7⟩
    obtain ⟨n, hn⟩ : ∃ n, l.length = n := ⟨_, rfl⟩
    rw [hn] at hrun HF ⊢
    have HR := Lib.hid hrun
    clear h hB h00 hgl hrun h4 h5 h7 hB7 hO h2 h3
    go_enter Try.func45, Try.ntmps45
    go_wp2_with (at_builtin; refine wpList_append_ran rfl _ _ _ rfl rfl rfl HR.out ?_)
    go_ret
    exact HF.out

end Go.Proofs.Ytmegiilkcidanaa.Disk

/-
  Contract of the disk's Copy: a new disk of the same data, in blocks of its own.
-/
namespace Go.Proofs.Ytmegiilkcidanaa.Disk
open Go Go.RowKit Go.Lib Go.Proofs.Ytmegiilkcidanaa.Law

/-- The files that have been copied: all but those of rest. -/
def CopyAt (W : World) (O : Owner) (cb mb : Nat) (D : DS) (rest : List ByteArray) : Prop :=
  (∃ n F, n + rest.length ≤ D.names.length ∧ MapP Try.prog 9 W mb n F ∧ (∀ s, Short s → ((F s).isSome ↔ s ∈ D.names ∧ s ∉ rest)) ∧
    ∀ s ∈ D.names, s ∉ rest → ∃ fb, F s = some fb ∧ FileAt W O (cb + 1) s fb (D.now s) (D.safe s) (mine s D.chs)) ∧
  (∀ s ∈ rest, s ∈ D.names) ∧ rest.Nodup ∧ (O cb = some none ∧ O mb = some none) ∧ ∀ k, O k ≠ none → cb ≤ k ∧ k < W.heap.size

/-- A file is copied. -/
theorem CopyAt.put {W W1 : World} {O : Owner} {cb mb fb n : Nat} {D : DS} {rest : List ByteArray} {s : ByteArray} {F : ByteArray → Option Nat} (hcm : cb < mb) (hmw : mb < W.heap.size)
    (hn : n + rest.length ≤ D.names.length) (hdom : ∀ x, Short x → ((F x).isSome ↔ x ∈ D.names ∧ x ∉ rest)) (hfile : ∀ x ∈ D.names, x ∉ rest → ∃ fb, F x = some fb ∧ FileAt W O (cb + 1) x fb (D.now x) (D.safe x) (mine x D.chs))
    (hsub : ∀ x ∈ rest, x ∈ D.names) (hnd : rest.Nodup) (hO : O cb = some none ∧ O mb = some none) (hlt : ∀ k, O k ≠ none → cb ≤ k ∧ k < W.heap.size) (hs : s ∈ rest)
    (hm : MapP Try.prog 9 W1 mb (n + 1) (fun x => if x = s then some fb else F x)) (hsize : W.heap.size ≤ W1.heap.size) (hsame : ∀ k, k < W.heap.size → cb ≤ k → k ≠ mb → O k ≠ none → W1.heap[k]? = W.heap[k]?)
    (hf : FileAt W1 (own O W.heap.size W1.heap.size s) (cb + 1) s fb (D.now s) (D.safe s) (mine s D.chs)) : CopyAt W1 (own O W.heap.size W1.heap.size s) cb mb D (rest.erase s) := by
  have hlen := List.length_erase_of_mem hs
  have hpos := List.length_pos_of_mem hs
  refine ⟨⟨n + 1, _, by omega, hm, fun x hx => ?_, fun x hx hxr => ?_⟩, fun x hx => hsub x (List.mem_of_mem_erase hx), hnd.erase _, ⟨(own_old (by omega)).trans hO.1, (own_old hmw).trans hO.2⟩, fun k hk => ?_⟩
  · by_cases hxs : x = s
    · subst hxs
      simp only [if_true, Option.isSome_some, true_iff]
      exact ⟨hsub x hs, fun e => (hnd.mem_erase_iff.1 e).1 rfl⟩
    · rw [if_neg hxs, hdom x hx]
      constructor
      · exact fun h => ⟨h.1, fun e => h.2 (List.mem_of_mem_erase e)⟩
      · exact fun h => ⟨h.1, fun e => h.2 ((List.mem_erase_of_ne hxs).2 e)⟩
  · by_cases hxs : x = s
    · subst hxs
      exact ⟨fb, if_pos rfl, hf⟩
    · obtain ⟨fx, h1, h2⟩ := hfile x hx fun e => hxr ((List.mem_erase_of_ne hxs).2 e)
      refine ⟨fx, (if_neg hxs).trans h1, h2.keep fun k hk ho => ⟨hsame k hk (hlt k (by rw [ho]; simp)).1 (fun e => by rw [e, hO.2] at ho; cases ho) (by rw [ho]; simp), (own_old hk).trans ho⟩⟩
  · by_cases h : W.heap.size ≤ k ∧ k < W1.heap.size
    · exact ⟨by omega, h.2⟩
    · have e : own O W.heap.size W1.heap.size s k = O k := if_neg h
      rw [e] at hk
      exact ⟨(hlt k hk).1, Nat.lt_of_lt_of_le (hlt k hk).2 hsize⟩
theorem CopyAt.keep {W W' : World} {O : Owner} {cb mb : Nat} {D : DS} {rest : List ByteArray} (h : CopyAt W O cb mb D rest) (hs : W.heap.size ≤ W'.heap.size) (hk : ∀ k, O k ≠ none → W'.heap[k]? = W.heap[k]?) : CopyAt W' O cb mb D rest := by
  obtain ⟨⟨n, F, h1, h2, h3, h4⟩, h5, h6, h7, h8⟩ := h
  refine ⟨⟨n, F, h1, h2.at (hk mb (by rw [h7.2]; simp)), h3, fun s hs hr => ?_⟩, h5, h6, h7, fun k hk' => ⟨(h8 k hk').1, Nat.lt_of_lt_of_le (h8 k hk').2 hs⟩⟩
  obtain ⟨fb, e1, e2⟩ := h4 s hs hr
  exact ⟨fb, e1, e2.keep fun k _ ho => ⟨hk k (by rw [ho]; simp), ho⟩⟩

/-- What Copy leaves. -/
def CopyO (w : World) (D : DS) (e : Ending) (W : World) : Prop := ∃ cb O, e = .returned (.pointer (some ⟨cb, 0, none⟩)) ∧ DiskAt W O cb D ∧ (∀ k, O k ≠ none → w.heap.size ≤ k) ∧ Below w.heap.size w W

theorem copy_done {w W : World} {O : Owner} {cb mb : Nat} {D : DS} (hcb : w.heap.size ≤ cb) (hw : WF D) (hd : DB W cb mb (D.room : Int) (D.used : Int) (D.made : Int) D.fails) (h : CopyAt W O cb mb D []) (hB : Below w.heap.size w W) : CopyO w D (.returned (.pointer (some ⟨cb, 0, none⟩))) W := by
  obtain ⟨⟨n, F, h1, h2, h3, h4⟩, h5, h6, h7, h8⟩ := h
  refine ⟨cb, O, rfl, ⟨mb, F, ⟨hd, ⟨n, Nat.le_trans (by simpa using h1) hw.count, h2⟩, h7.1, h7.2, fun s hs => ?_, fun k hk => (h8 k hk).2⟩, fun s hs => h4 s hs (by simp)⟩, fun k hk => Nat.le_trans hcb (h8 k hk).1, hB⟩
  rw [h3 s hs]
  simp

end Go.Proofs.Ytmegiilkcidanaa.Disk

/-
  The walk of the disk's Copy.
-/
namespace Go.Proofs.Ytmegiilkcidanaa.Disk
open Go Go.RowKit Go.Lib Go.Proofs.Ytmegiilkcidanaa.Law

theorem wpList_len_ran {P : Program} {ops : Array Oper} {rest : List Oper} {o : Oper} {a : Act} {w : World} {Q : Exit → Act → World → Prop} (hgd : Region.wanted o (yielded ops a.tmps) = true) (x : Operand) (t : TypeId)
    (ho : o.op = .call { callee := .builtin .len, args := #[x], argTypes := #[t] }) {v v' : Value} {w' : World} (hx : a.eval x = v)
    (hrun : (Builtin.len_ #[t] o.type #[v]).run P w = .ok v' w') (h : wpList P ops Q rest (a.put o.dst v') w') : wpList P ops Q (o :: rest) a w := by
  refine wpList_step fun K hK => ?_
  rw [if_pos hgd]
  unfold Oper.wp execOp
  simp only [ho, resolve, invoke, builtin, Sem.run_bind, Sem.run_pure, Result.andThen_ok, List.map_toArray, List.map_cons, List.map_nil, hx, hrun]
  exact hK _ _ h
theorem mapP_len {P : Program} {k e t : TypeId} {W : World} {b n : Nat} {F : ByteArray → Option Nat} (h : MapP P k W b n F) (ht : P.underlying t = some (.map k e)) (ty : TypeId) : ∃ m : Nat, (Builtin.len_ #[t] ty #[.map (some b)]).run P W = .ok (.int .i64 (m : Nat)) W := by
  obtain ⟨D, h, _⟩ := h
  exact ⟨_, h.len ht ty⟩

/-- The copy's own blocks are laid. -/
theorem copy_start {w w1 w2 : World} {db mb : Nat} {D : DS} (hd : DB w db mb (D.room : Int) (D.used : Int) (D.made : Int) D.fails) (hw1 : w.alloc (.cells #[.map (some mb), .int .i64 (D.room : Nat), .int .i64 (D.used : Nat), .int .i64 (D.made : Nat), .bool D.fails] 64) = w1)
    (hw2 : (w1.setCell ⟨w.heap.size, 0, none⟩ (.map (some (w.heap.size + 1)))).alloc (.map #[] 0) = w2) :
    w1.heap.size = w.heap.size + 1 ∧ ((w1.alloc (.map #[] 0)).cell? ⟨w.heap.size, 0, none⟩ = some (.map (some mb)) ∧ (w1.alloc (.map #[] 0)).frozen? ⟨w.heap.size, 0, none⟩ = false ∧ w1.cell? ⟨db, 0, none⟩ = some (.map (some mb))) ∧ Below w.heap.size w w2 ∧ w2.heap.size = w.heap.size + 2 ∧
      DB w2 w.heap.size (w.heap.size + 1) (D.room : Int) (D.used : Int) (D.made : Int) D.fails ∧ MapP Try.prog 9 w2 (w.heap.size + 1) 0 (fun _ => none) := by
  have hdb := hd.lt
  have hs1 : w1.heap.size = w.heap.size + 1 := by rw [← hw1]; simp
  have hb1 : Below w.heap.size w w1 := by rw [← hw1]; exact (Below.refl _ _).alloc (Nat.le_refl _) _
  have hx : w1.heap[w.heap.size]? = some (.cells #[.map (some mb), .int .i64 (D.room : Nat), .int .i64 (D.used : Nat), .int .i64 (D.made : Nat), .bool D.fails] 64 (0, 0)) := by rw [← hw1]; exact heap_alloc_new w _
  have hx2 : (w1.alloc (.map #[] 0)).heap[w.heap.size]? = some (.cells #[.map (some mb), .int .i64 (D.room : Nat), .int .i64 (D.used : Nat), .int .i64 (D.made : Nat), .bool D.fails] 64 (0, 0)) := (Below.heap_alloc _ _ _ (by omega)).trans hx
  have hm := MapP.made Try.prog 9 (w1.setCell ⟨w.heap.size, 0, none⟩ (.map (some (w.heap.size + 1))))
  have hss : (w1.setCell ⟨w.heap.size, 0, none⟩ (.map (some (w.heap.size + 1)))).heap.size = w.heap.size + 1 := by simp [World.setCell, hs1]
  rw [hss] at hm
  have hbs : Below w.heap.size w (w1.setCell ⟨w.heap.size, 0, none⟩ (.map (some (w.heap.size + 1)))) := hb1.setCell (p := ⟨w.heap.size, 0, none⟩) (Nat.le_refl _) _
  refine ⟨hs1, ⟨by simp [World.cell?, hx2], by simp [World.frozen?, hx2], (hb1.cell (p := ⟨db, 0, none⟩) hdb).trans hd.cells.1.1⟩, ?_, ?_, ?_, ?_⟩
  · rw [← hw2]
    exact hbs.alloc hbs.size _
  · rw [← hw2]; simp [World.setCell, hs1]
  · rw [← hw2]
    exact (Below.heap_alloc _ _ _ (by omega)).trans ((block_set hx 0 _).trans (by simp))
  · rw [← hw2]
    exact hm

/-- A copied file, in blocks of its own. -/
theorem copy_file {w1 W0 W2 W3 W4 W5 : World} {O : Owner} {cb mb : Nat} {s : ByteArray} {now safe : Option (List Nat)} {cs : List Chg} {A1 A2 A3 : Option Addr} {c1 c2 c3 : Nat} (hcb : cb + 1 ≤ w1.heap.size) (hmb : mb < w1.heap.size)
    (B0 : Below w1.heap.size w1 W0) (B2 : Below W0.heap.size W0 W2) (O2 : OwnB W2 W0.heap.size 5 (.slice A1 (szO now) c1) (now.getD [])) (B3 : Below W2.heap.size W2 W3) (O3 : OwnB W3 W2.heap.size 5 (.slice A2 (szO safe) c2) (safe.getD [])) (B4 : Below W3.heap.size W3 W4) (O4 : OwnC W4 W3.heap.size (.slice A3 cs.length c3) cs)
    (g5 : (W4.alloc (.cells #[.bool now.isSome, .slice A1 (szO now) c1, .bool safe.isSome, .slice A2 (szO safe) c2, .bool false, .slice A3 cs.length c3] 78)).grownBy W5 (some mb)) :
    FileAt W5 (own O w1.heap.size W5.heap.size s) (cb + 1) s W4.heap.size now safe cs ∧ w1.heap.size ≤ W5.heap.size ∧ (∀ k, k < w1.heap.size → k ≠ mb → W5.heap[k]? = w1.heap[k]?) ∧ W5.os = w1.os ∧ W5.tape = w1.tape ∧ W5.output = w1.output := by
  have s0 := B0.size
  have s2 := B2.size
  have s3 := B3.size
  have s4 := B4.size
  have s5 := g5.size
  simp only [World.size_alloc] at s5
  have Ba : Below W4.heap.size W4 (W4.alloc (.cells #[.bool now.isSome, .slice A1 (szO now) c1, .bool safe.isSome, .slice A2 (szO safe) c2, .bool false, .slice A3 cs.length c3] 78)) := (Below.refl _ _).alloc (Nat.le_refl _) _
  have h5 : ∀ k, k < W4.heap.size → k ≠ mb → W5.heap[k]? = W4.heap[k]? := fun k hk hne => (g5.block k (by simp; omega) (by simpa using hne)).trans (Ba.block k hk)
  have hfb : FB W5 W4.heap.size now.isSome (.slice A1 (szO now) c1) safe.isSome (.slice A2 (szO safe) c2) false (.slice A3 cs.length c3) := (g5.block _ (by simp) (by simp; omega)).trans (heap_alloc_new W4 _)
  have b2 := Buf.of_own O2
  have b3 := Buf.of_own O3
  have k2 : ∀ g, (Value.slice A1 (szO now) c1).ownBlock = some g → W0.heap.size ≤ g ∧ g < W2.heap.size := fun g hg => b2.own g hg
  have k3 : ∀ g, (Value.slice A2 (szO safe) c2).ownBlock = some g → W2.heap.size ≤ g ∧ g < W3.heap.size := fun g hg => b3.own g hg
  have k4 : ∀ g, (Value.slice A3 cs.length c3).ownBlock = some g → W3.heap.size ≤ g ∧ g < W4.heap.size := fun g hg => O4.own g hg
  have f2 : Buf W5 W0.heap.size 5 (.slice A1 (szO now) c1) (now.getD []) := b2.keep fun g hg => by
    have := k2 g hg
    rw [h5 g (by omega) (by omega), B4.block g (by omega), B3.block g (by omega)]
  have f3 : Buf W5 W2.heap.size 5 (.slice A2 (szO safe) c2) (safe.getD []) := b3.keep fun g hg => by
    have := k3 g hg
    rw [h5 g (by omega) (by omega), B4.block g (by omega)]
  have f4 : OwnC W5 W3.heap.size (.slice A3 cs.length c3) cs := O4.keep fun g hg => by
    have := k4 g hg
    exact h5 g (by omega) (by omega)
  have hall := ((B0.trans (B2.mono s0)).trans (B3.mono (by omega))).trans (B4.mono (by omega))
  refine ⟨⟨false, _, _, _, hfb, f2.lower (by omega), f3.lower (by omega), fun g h1 h2 => ?_, ⟨f4.1, ?_⟩, own_new (by omega) (by omega), fun g hg => ?_⟩, by omega, fun k hk hne => (h5 k (by omega) hne).trans (hall.block k hk), ?_, ?_, ?_⟩
  · have := k2 g h1
    have := k3 g h2
    omega
  · rcases f4.2 with h0 | ⟨g, cap, cur, h0, e1, e2⟩
    · exact .inl h0
    · exact .inr ⟨g, cap, cur, h0, by omega, e2⟩
  · rcases hg with hg | hg | hg
    · have := k2 g hg
      exact own_new (by omega) (by omega)
    · have := k3 g hg
      exact own_new (by omega) (by omega)
    · have := k4 g hg
      exact own_new (by omega) (by omega)
  · exact g5.os.trans (Ba.os.trans hall.os)
  · exact g5.tape.trans (Ba.tape.trans hall.tape)
  · exact g5.output.trans (Ba.output.trans hall.output)

set_option maxRecDepth 100000 in
set_option maxHeartbeats 4000000 in
theorem copyD_calls (w : World) (O : Owner) (db : Nat) (D : DS) (h : DiskAt w O db D) (hw : WF D) (hmade : D.made ≤ 4294967296) :
    Calls Try.prog 19 #[.pointer (some ⟨db, 0, none⟩)] w (CopyO w D) := by
  obtain ⟨mb, F, hc, hf⟩ := id h
  obtain ⟨n, hn, hm⟩ := hc.map
  have hdb := hc.disk.lt
  have hmbl := hm.lt
  obtain ⟨⟨d0, d1, d2, d3, d4⟩, dz⟩ := hc.disk.cells
  have hmm : ∀ (z : Int) (W : World), (Instr.makeMap 62 (some (.int .i64 z))).run Try.prog W = .ok (.map (some W.heap.size)) (W.alloc (.map #[] 0)) := fun z W => by kernel_rfl
  obtain ⟨w1, hw1⟩ : ∃ w1, w.alloc (.cells #[.map (some mb), .int .i64 (D.room : Nat), .int .i64 (D.used : Nat), .int .i64 (D.made : Nat), .bool D.fails] 64) = w1 := ⟨_, rfl⟩
  obtain ⟨w2, hw2⟩ : ∃ w2, (w1.setCell ⟨w.heap.size, 0, none⟩ (.map (some (w.heap.size + 1)))).alloc (.map #[] 0) = w2 := ⟨_, rfl⟩
  obtain ⟨hs1, ⟨x0, x1, x2⟩, hB2, hs2, hDB, hMP⟩ := copy_start hc.disk hw1 hw2
  have hB1 : Below w.heap.size w w1 := by rw [← hw1]; exact (Below.refl _ _).alloc (Nat.le_refl _) _
  obtain ⟨m, hlen⟩ := mapP_len (hm.at (hB1.block mb hmbl)) Try.underlying62 3
  have hcm := hm.at (hB2.block mb hmbl)
  obtain ⟨w', cnt, hrun, hR, hG, hS⟩ := hcm.rng Try.underlying9 Try.underlying62 D.names hw.nodup (fun s hs => hw.short hs) hc.dom
  have hB3 : Below w2.heap.size w2 w' := ⟨hG.os, hG.tape, hG.output, hG.size, fun k hk => hG.block k hk (by simp)⟩
  have y0 : w2.cell? ⟨db, 0, none⟩ = some (.map (some mb)) := (hB2.cell (p := ⟨db, 0, none⟩) hdb).trans d0
  have HFV : Hid (∀ s ∈ D.names, ∀ g, F s = some g → g < w.heap.size ∧ ∃ v : KV, FileV w O (db + 1) s g (D.now s) (D.safe s) (mine s D.chs) v) := Lib.hid fun s hs g hg => by
    obtain ⟨v, hv⟩ := DiskAt.files hf hs hg
    exact ⟨hv.1.lt, v, hv⟩
  obtain ⟨cb, hcb⟩ : ∃ cb, w.heap.size = cb := ⟨_, rfl⟩
  rw [hcb] at hw2 hs1 x0 x1 hs2 hDB hMP
  have HW1 := Lib.hid hw1
  have HW2 := Lib.hid hw2
  rw [hs2] at hrun
  have HRUN := Lib.hid hrun
  have HR := Lib.hid hR
  have HB2 := Lib.hid hB2
  have HB3 := Lib.hid hB3
  have HDB := Lib.hid hDB
  have HMP := Lib.hid hMP
  have HS := Lib.hid hS
  have HWF := Lib.hid hw
  clear h hw1 hw2 hc hf hm hcm hrun hR hG hB2 hB3 hDB hMP hS hw dz
  go_enter Try.func19, Try.ntmps19
  go_upto_region 4 with fail
  rw [HW1.out]
  go_upto_region 5 with fail
  rw [HW2.out]
  clear x0 x1 x2 hlen hmm HW1 HW2 d1 d2 d3 d4
  go_wp2_with (first | (at_range; refine wpList_range_ran rfl _ _ rfl rfl HRUN.out ?_))
  go_frame
  go_loopw [4] (fun _ wr => ∃ (rest : List ByteArray) (c : Nat) (O2 : Owner), Rng Try.prog 9 wr mb (cb + 2) n F rest c ∧ Hid (CopyAt wr O2 cb (cb + 1) D rest ∧ O2 (cb + 2) = none ∧ Below w.heap.size w wr ∧ DB wr cb (cb + 1) (D.room : Int) (D.used : Int) (D.made : Int) D.fails ∧ cb + 3 ≤ wr.heap.size)) (fun _ wr => wr.rangeLeft mb (cb + 2))
  case atStart =>
    have hr := HR.out
    rw [hs2] at hr
    have hm := HMP.out.at (HB3.out.block (cb + 1) (by omega))
    refine ⟨D.names, cnt, fun k => if k = cb ∨ k = cb + 1 then some none else none, hr, Lib.hid ⟨⟨⟨0, _, by simp, hm, fun s _ => by simp, fun s h1 h2 => absurd h1 h2⟩, fun _ h => h, HWF.out.nodup, ⟨if_pos (.inl rfl), if_pos (.inr rfl)⟩, fun k hk => ?_⟩, if_neg (by omega), HB2.out.trans (HB3.out.mono HB2.out.size), HDB.out.at (HB3.out.block cb (by omega)), by have := HS.out; omega⟩⟩
    have := HS.out
    by_cases hk2 : k = cb ∨ k = cb + 1
    · omega
    · exact absurd (if_neg hk2) hk
  case round =>
    obtain ⟨rest, c, O2, hrng, HC⟩ := hrel
    have hleft := hrng.left
    rcases hrng.next Try.underlying9 0 with ⟨rfl, hnx⟩ | ⟨s, g, w3, c3, hs, hF, hnx, hrng1, hlt, hg1, hs1', hen⟩
    · have HNX := Lib.hid hnx
      have HF : Hid (CopyO w D (.returned (.pointer (some ⟨cb, 0, none⟩))) wr) := Lib.hid (copy_done (by omega) HWF.out HC.out.2.2.2.1 HC.out.1 HC.out.2.2.1)
      clear hnx hrng hleft HC
      go_wp2_with (first | (at_next; refine wpList_next_ran rfl _ _ rfl rfl HNX.out ?_))
      go_ret
      exact HF.out
    · have HNX := Lib.hid hnx
      have HEN := Lib.hid hen
      obtain ⟨hCopy, hO2, hBw, hDB, hsz⟩ := HC.out
      have hlt8 := hCopy.2.2.2.2
      have hC3 : CopyAt w3 O2 cb (cb + 1) D rest := hCopy.keep hg1.size fun k hk => hg1.block k (hlt8 k hk).2 (fun e => by
        have e2 : k = cb + 2 := by simpa using e
        rw [e2] at hk
        exact hk hO2)
      obtain ⟨⟨n2, F2, k1, k2, k3, k4⟩, k5, k6, k7, k8⟩ := hC3
      obtain ⟨hgl, ⟨sh, na, nc, sa, sc, ca, cc⟩, hFV⟩ := HFV.out s (k5 s hs) g hF
      have hB3 : Below w.heap.size w w3 := hBw.grown hg1 hBw.size (fun k e => by cases e; omega)
      have hDB3 : DB w3 cb (cb + 1) (D.room : Int) (D.used : Int) (D.made : Int) D.fails := hDB.at (hg1.block cb (by omega) (by simp))
      have hsz3 : cb + 3 ≤ w3.heap.size := by omega
      obtain ⟨hfb, hbn, hbs, _, hbc, _, _⟩ := hFV
      have hfb3 := hfb.cells.1
      obtain ⟨nt, hnt⟩ : ∃ t, (D.now s).isSome = t := ⟨_, rfl⟩
      obtain ⟨st, hst⟩ : ∃ t, (D.safe s).isSome = t := ⟨_, rfl⟩
      obtain ⟨nl, hnl⟩ : ∃ t, szO (D.now s) = t := ⟨_, rfl⟩
      obtain ⟨sl, hsl⟩ : ∃ t, szO (D.safe s) = t := ⟨_, rfl⟩
      obtain ⟨cl, hcl⟩ : ∃ t, (mine s D.chs).length = t := ⟨_, rfl⟩
      have hnle := HWF.out.nowLe s
      have hsle := HWF.out.safeLe s
      have hcle := HWF.out.mineLe s
      have C1 : Hid (∀ W0, Below w3.heap.size w3 W0 → Calls Try.prog 44 #[.agg #[.bool nt, .slice na nl nc]] W0 fun e W => ∃ A c, e = .returned (.agg #[.bool nt, .slice A nl c]) ∧ Below W0.heap.size W0 W ∧ Hid (OwnB W W0.heap.size 5 (.slice A nl c) ((D.now s).getD []))) := Lib.hid fun W0 hB => by
        have hB' := hB3.trans (hB.mono hB3.size)
        have h := copied_calls nt (.slice na (szO (D.now s)) nc) ((D.now s).getD []) (by rw [szO_getD]; omega) W0 ((hbn.below hB').bytes)
        rw [hnl] at h
        refine h.mono ?_
        rintro e W ⟨v', rfl, hO, hB2⟩
        obtain ⟨A, c, rfl⟩ := hO.bytes.form
        rw [szO_getD, hnl] at hO ⊢
        exact ⟨A, c, rfl, hB2, Lib.hid hO⟩
      have C2 : Hid (∀ W0, Below w3.heap.size w3 W0 → Calls Try.prog 44 #[.agg #[.bool st, .slice sa sl sc]] W0 fun e W => ∃ A c, e = .returned (.agg #[.bool st, .slice A sl c]) ∧ Below W0.heap.size W0 W ∧ Hid (OwnB W W0.heap.size 5 (.slice A sl c) ((D.safe s).getD []))) := Lib.hid fun W0 hB => by
        have hB' := hB3.trans (hB.mono hB3.size)
        have h := copied_calls st (.slice sa (szO (D.safe s)) sc) ((D.safe s).getD []) (by rw [szO_getD]; omega) W0 ((hbs.below hB').bytes)
        rw [hsl] at h
        refine h.mono ?_
        rintro e W ⟨v', rfl, hO, hB2⟩
        obtain ⟨A, c, rfl⟩ := hO.bytes.form
        rw [szO_getD, hsl] at hO ⊢
        exact ⟨A, c, rfl, hB2, Lib.hid hO⟩
      have C3 : Hid (∀ W0, Below w3.heap.size w3 W0 → Calls Try.prog 45 #[.slice ca cl cc] W0 fun e W => ∃ A c, e = .returned (.slice A cl c) ∧ Below W0.heap.size W0 W ∧ Hid (OwnC W W0.heap.size (.slice A cl c) (mine s D.chs))) := Lib.hid fun W0 hB => by
        have hB' := hB3.trans (hB.mono hB3.size)
        have hbc' : OwnC W0 (db + 1) (.slice ca (mine s D.chs).length cc) (mine s D.chs) := hbc.keep fun k hk => hB'.block k (hbc.own k hk).2
        have h := cloneC_calls W0 _ _ _ hbc' (by omega)
        rw [hcl] at h
        refine h.mono ?_
        rintro e W ⟨A, c, rfl, hO, hB2⟩
        rw [hcl] at hO ⊢
        exact ⟨A, c, rfl, hB2, Lib.hid hO⟩
      rw [hnt, hnl, hst, hsl] at hfb3
      simp only [KV.now, KV.safe, KV.chs] at hfb3
      rw [hcl] at hfb3
      have HSS : Hid (∀ W0, Below w3.heap.size w3 W0 → W0.cell? ⟨cb, 0, none⟩ = some (.map (some (cb + 1))) ∧ W0.cell? ⟨g, 0, none⟩ = some (.bool nt) ∧ W0.cell? ⟨g, 1, none⟩ = some (.slice na nl nc) ∧ W0.cell? ⟨g, 2, none⟩ = some (.bool st) ∧ W0.cell? ⟨g, 3, none⟩ = some (.slice sa sl sc) ∧ W0.cell? ⟨g, 5, none⟩ = some (.slice ca cl cc)) := Lib.hid fun W0 hB => by
        have hB' := hB3.trans (hB.mono hB3.size)
        have hgl' : g < w.heap.size := by omega
        exact ⟨(hB.cell (p := ⟨cb, 0, none⟩) (by show cb < w3.heap.size; omega)).trans hDB3.cells.1.1, (hB'.cell (p := ⟨g, 0, none⟩) hgl').trans hfb3.1, (hB'.cell (p := ⟨g, 1, none⟩) hgl').trans hfb3.2.1, (hB'.cell (p := ⟨g, 2, none⟩) hgl').trans hfb3.2.2.1, (hB'.cell (p := ⟨g, 3, none⟩) hgl').trans hfb3.2.2.2.1, (hB'.cell (p := ⟨g, 5, none⟩) hgl').trans hfb3.2.2.2.2.2⟩
      have HSG : Hid (∀ W0 W5, Below w3.heap.size w3 W0 → W0.grownBy W5 (some (cb + 1)) → W5.cell? ⟨cb, 0, none⟩ = some (.map (some (cb + 1))) ∧ W5.cell? ⟨g, 0, none⟩ = some (.bool nt) ∧ W5.cell? ⟨g, 1, none⟩ = some (.slice na nl nc) ∧ W5.cell? ⟨g, 2, none⟩ = some (.bool st) ∧ W5.cell? ⟨g, 3, none⟩ = some (.slice sa sl sc) ∧ W5.cell? ⟨g, 5, none⟩ = some (.slice ca cl cc)) := Lib.hid fun W0 W5 hB hG => by
        obtain ⟨e0, e1, e2, e3, e4, e5⟩ := HSS.out W0 hB
        have hs0 := hB.size
        have k1 : W5.heap[cb]? = W0.heap[cb]? := hG.block cb (by omega) (by simp)
        have k2 : W5.heap[g]? = W0.heap[g]? := hG.block g (by omega) (by simp; omega)
        simp only [World.cell?, k1, k2] at *
        exact ⟨e0, e1, e2, e3, e4, e5⟩
      have HST : Hid (∀ W0 fb, Below w3.heap.size w3 W0 → ∃ W5, (Instr.mapUpdate 62 (.map (some (cb + 1))) (.string s) (.pointer (some ⟨fb, 0, none⟩))).run Try.prog W0 = .ok () W5 ∧ MapP Try.prog 9 W5 (cb + 1) (n2 + 1) (fun x => if x = s then some fb else F2 x) ∧ W0.grownBy W5 (some (cb + 1))) := Lib.hid fun W0 fb hB =>
        (k2.at (hB.block _ (by omega))).store Try.underlying9 Try.underlying62 (by have := HWF.out.count; simp only [maxLen]; omega) (HWF.out.short (k5 s hs)) fb
      obtain ⟨z0, z1, z2, z3, z4, z5⟩ := HSS.out w3.drew (Below.refl _ _).drew
      clear hnx hrng hCopy HC HFV hbn hbs hbc hfb hfb3 hDB hen HB2 HB3 HDB HMP HS HR hBw
      go_wp2_with (first | (at_next; refine wpList_next_ran rfl _ _ rfl rfl HNX.out ?_) | (refine wpList_entry_ran (o := ⟨some 25, _, _, _, _, _⟩) rfl _ rfl rfl HEN.out ?_))
      go_region_held3 (fun W0 => W0.cell? ⟨cb, 0, none⟩ = some (.map (some (cb + 1))) ∧ W0.cell? ⟨g, 0, none⟩ = some (.bool nt) ∧ W0.cell? ⟨g, 1, none⟩ = some (.slice na nl nc) ∧ W0.cell? ⟨g, 2, none⟩ = some (.bool st) ∧ W0.cell? ⟨g, 3, none⟩ = some (.slice sa sl sc) ∧ W0.cell? ⟨g, 5, none⟩ = some (.slice ca cl cc)) (go_keep) (first
        | (go_at_call 44; ((with_reducible refine (C1.out _ (Below.refl _ _).drew).mono ?_); rintro e W2 ⟨A1, b1, rfl, B2, HO2⟩; have T2 := (Below.refl w3.heap.size w3).drew.trans (B2.mono (Nat.le_refl _)); obtain ⟨p0, p1, p2, p3, p4, p5⟩ := HSS.out W2 T2))
        | (go_at_call 44; ((with_reducible refine (C2.out _ T2).mono ?_); rintro e W3 ⟨A2, b2, rfl, B3, HO3⟩; have T3 := T2.trans (B3.mono T2.size); obtain ⟨q0, q1, q2, q3, q4, q5⟩ := HSS.out W3 T3))
        | (go_at_call 45; ((with_reducible refine (C3.out _ T3).mono ?_); rintro e W4 ⟨A3, b3, rfl, B4, HO4⟩; have T4 := T3.trans (B4.mono T3.size); obtain ⟨r0, r1, r2, r3, r4, r5⟩ := HSS.out W4 T4; have T4a := T4.alloc T4.size (.cells #[.bool nt, .slice A1 nl b1, .bool st, .slice A2 sl b2, .bool false, .slice A3 cl b3] 78); obtain ⟨u0, u1, u2, u3', u4', u5'⟩ := HSS.out _ T4a; obtain ⟨W5, hst5, hm5, hg5⟩ := HST.out _ W4.heap.size T4a; obtain ⟨v0, v1, v2, v3, v4, v5⟩ := HSG.out _ W5 T4a hg5)))
      all_goals
        have hnow : CopyAt W5 (own O2 w3.heap.size W5.heap.size s) cb (cb + 1) D (rest.erase s) ∧ own O2 w3.heap.size W5.heap.size s (cb + 2) = none ∧ Below w.heap.size w W5 ∧ DB W5 cb (cb + 1) (D.room : Int) (D.used : Int) (D.made : Int) D.fails ∧ cb + 3 ≤ W5.heap.size ∧ Rng Try.prog 9 W5 mb (cb + 2) n F (rest.erase s) c3 := by
          have hg6 := hg5
          rw [← hnt, ← hst, ← hnl, ← hsl, ← hcl] at hg6
          have o2 := HO2.out
          have o3 := HO3.out
          have o4 := HO4.out
          rw [← hnl] at o2
          rw [← hsl] at o3
          rw [← hcl] at o4
          obtain ⟨e1, e2, e3, e4, e5, e6⟩ := copy_file (O := O2) (s := s) (cb := cb) (w1 := w3) (by omega) (by omega) (Below.refl _ _).drew B2 o2 B3 o3 B4 o4 hg6
          refine ⟨CopyAt.put (by omega) (by omega) k1 k3 k4 k5 k6 k7 k8 hs hm5 e2 (fun k hk _ hne _ => e3 k hk hne) e1, (own_old (by omega)).trans hO2, ?_, hDB3.at (e3 cb (by omega) (by omega)), by omega, (hrng1.at (e3 mb (by omega) (by omega)) (e3 (cb + 2) (by omega) (by omega)))⟩
          exact hB3.trans ⟨e4, e5, e6, e2, fun k hk => e3 k (by have := hB3.size; omega) (by omega)⟩
        have HNOW := Lib.hid hnow
        have hl5 := hnow.2.2.2.2.2.left
        clear hnow
        go_wp2_with fail
        go_roundw
        case rel => exact ⟨rest.erase s, c3, _, HNOW.out.2.2.2.2.2, Lib.hid ⟨HNOW.out.1, HNOW.out.2.1, HNOW.out.2.2.1, HNOW.out.2.2.2.1, HNOW.out.2.2.2.2.1⟩⟩
        case measure => rw [hleft, hl5]; exact hlt

end Go.Proofs.Ytmegiilkcidanaa.Disk
