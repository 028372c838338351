/-
  Put together out of texts of one chain: what they hold stands ahead of each.
-/
import Derived.Test.YtnhkpemajknfnaaGreatDoorGSeglogHeads16
import Derived.Test.YtnhkpemajknfnaaGreatDoorGSeglogHeads22
import Derived.Test.YtnhkpemajknfnaaGreatDoorGSeglogHeads11
import Derived.Test.YtnhkpemajknfnaaGreatDoorRowOf
import Derived.Test.YtnhkpemajknfnaaGreatDoorProg
import Derived.Shelf.SlSortCmp.WholeK
import Derived.Ground.SlsfProg
import Derived.Test.YtnhkpemajknfnaaGreatDoorGSeglogHeads13
import Derived.Shelf.SlSortCmp.NoneTotal
import Derived.Deep.RegionWith
import Derived.WalkMore
import Derived.Deep.LoopGhost
/-
  The log of the law SeglogHeads, and the rows that were kept beside it: contracts of the calls.
-/
namespace Go.Proofs.YtnhkpemajknfnaaGreatDoor.Seglog
open Go Go.RowKit Go.Lib Go.Proofs.YtnhkpemajknfnaaGreatDoor.Law Go.Proofs.YtnhkpemajknfnaaGreatDoor.Disk Go.Proofs.YtnhkpemajknfnaaGreatDoor.Frame Go.Proofs.YtnhkpemajknfnaaGreatDoor.Crc

/-- A log that tells K, after m calls. -/
def LgK (p : ByteArray) (room : Nat) (Fr : Nat → Prop) (w : World) (lb db R : Nat) (wr : World) (K : List (List Nat)) (m : Nat) : Prop :=
  ∃ base v l D U M, Lg Fr w base lb db D p room false v l wr ∧ Fine D p l K R U M ∧ U ≤ 70000 * m ∧ M ≤ m ∧ K.length ≤ m ∧ DistL l
/-- A slice as a value. -/
def slV (t : Option Addr × Nat × Nat) : Value := .slice t.1 t.2.1 t.2.2
/-- The rows that were kept. -/
def Rowy (w wr : World) (Fr : Nat → Prop) (kv : Value) (K : List (List Nat)) : Prop :=
  ∃ X : List (Option Addr × Nat × Nat), OwnRow slV 29 wr w.heap.size kv X ∧ X.length = K.length ∧ (∀ g, kv.ownBlock = some g → Fr g) ∧ ∀ (j : Nat) (x : Option Addr × Nat × Nat), X[j]? = some x → ∃ bs, K[j]? = some bs ∧ Bytes w.heap.size w (slV x) bs

theorem Rowy.nil (w wr : World) (Fr : Nat → Prop) : Rowy w wr Fr (.slice none 0 0) [] := ⟨[], OwnRow.nil _ _ _, rfl, (fun g hg => by cases hg), fun j x hx => by simp at hx⟩
theorem Rowy.form {w wr : World} {Fr : Nat → Prop} {kv : Value} {K : List (List Nat)} (h : Rowy w wr Fr kv K) : ∃ A c, kv = .slice A K.length c := by
  obtain ⟨X, h1, h2, _⟩ := h
  obtain ⟨A, c, h3, _⟩ := h1.form
  exact ⟨A, c, by rw [h3, h2]⟩
theorem Rowy.alien {w wr : World} {Fr : Nat → Prop} {kv : Value} {K : List (List Nat)} (h : Rowy w wr Fr kv K) : ∀ g, kv.ownBlock = some g → Fr g ∧ Alien wr g := fun g hg => by
  obtain ⟨X, h1, _, h3, _⟩ := h
  refine ⟨h3 g hg, ?_⟩
  rcases h1.2 with ⟨rfl, _⟩ | ⟨g', cap, cur, rfl, _, h4, _⟩
  · cases hg
  · simp only [Value.ownBlock, Option.some.injEq] at hg
    subst hg
    exact ⟨cur, _, _, h4, by decide, by decide, by decide⟩
theorem Rowy.keep {w wr wr' : World} {Fr Fr' : Nat → Prop} {kv : Value} {K : List (List Nat)} (h : Rowy w wr Fr kv K) (hF : ∀ k, Fr k → Fr' k) (hk : ∀ k, Fr k → Alien wr k → wr'.heap[k]? = wr.heap[k]?) : Rowy w wr' Fr' kv K := by
  have ha := h.alien
  obtain ⟨X, h1, h2, h3, h4⟩ := h
  exact ⟨X, h1.keep fun g hg => hk g (ha g hg).1 (ha g hg).2, h2, fun g hg => hF g (h3 g hg), h4⟩
theorem LgK.below {p : ByteArray} {room lb db R m : Nat} {Fr : Nat → Prop} {w wr wr' : World} {K : List (List Nat)} (h : LgK p room Fr w lb db R wr K m) (hB : Below wr.heap.size wr wr') : LgK p room Fr w lb db R wr' K m := by
  obtain ⟨base, v, l, D, U, M, h1, h2⟩ := h
  exact ⟨base, v, l, D, U, M, ⟨Dx.below h1.1 hB, LogIn.same h1.2 (Dx.sameOn h1.1 hB)⟩, h2⟩
theorem LgK.low {p : ByteArray} {room lb db R m : Nat} {Fr : Nat → Prop} {w wr : World} {K : List (List Nat)} (h : LgK p room Fr w lb db R wr K m) : Below w.heap.size w wr := by
  obtain ⟨base, v, l, D, U, M, h1, h2⟩ := h
  exact h1.1.low
theorem LgK.in {p : ByteArray} {room lb db R m : Nat} {Fr : Nat → Prop} {w wr : World} {K : List (List Nat)} (h : LgK p room Fr w lb db R wr K m) {k : Nat} (hk : Fr k) : w.heap.size ≤ k ∧ k < wr.heap.size := by
  obtain ⟨base, v, l, D, U, M, h1, h2⟩ := h
  exact Dx.in h1.1 hk
theorem Rowy.below {p : ByteArray} {room lb db R m : Nat} {Fr : Nat → Prop} {w wr wr' : World} {K' K : List (List Nat)} {kv : Value} (hr : Rowy w wr Fr kv K) (h : LgK p room Fr w lb db R wr K' m) (hB : Below wr.heap.size wr wr') : Rowy w wr' Fr kv K :=
  hr.keep (fun _ hk => hk) (fun k hk _ => hB.block k (h.in hk).2)
theorem LgK.more {p : ByteArray} {room lb db R m m' : Nat} {Fr : Nat → Prop} {w wr : World} {K : List (List Nat)} (h : LgK p room Fr w lb db R wr K m) (hm : m ≤ m') : LgK p room Fr w lb db R wr K m' := by
  obtain ⟨base, v, l, D, U, M, h1, h2, h3, h4, h5, h6⟩ := h
  exact ⟨base, v, l, D, U, M, h1, h2, by omega, by omega, by omega, h6⟩

/-- Append, where the entry fits. -/
theorem LgK.append_calls {p : ByteArray} {room lb db R m : Nat} {Fr : Nat → Prop} {w wr : World} {K : List (List Nat)} {kv : Value} (h : LgK p room Fr w lb db R wr K m) (hrow : Rowy w wr Fr kv K) (hp : p.size ≤ 13) (hpr : ∀ b, b ≤ 4611686018427387904 → rightB (fileN p b) = true) (htab : Tab10 w)
    (hcrc : ∀ W', Below w.heap.size w W' → Tab W') (hm : m ≤ 1000) (hR : 70000 * (m + 1) ≤ R) (hR2 : R ≤ 1073741824) (hrm : room ≤ 1048576) (tv : Value) (bs : List Nat) (hbytes : Bytes w.heap.size w tv bs) (hlen : bs.length ≤ 65536) :
    Calls Tryz.prog 19 #[.pointer (some ⟨lb, 0, none⟩), tv] wr fun e Z => e = .returned (.tuple #[.int .i64 (K.length : Nat), .int .i64 0]) ∧ ∃ Fr2, LgK p room Fr2 w lb db R Z (K ++ [bs]) (m + 1) ∧ Rowy w Z Fr2 kv K := by
  obtain ⟨base, v, l, D, U, M, h1, h2, h3, h4, h5, h6⟩ := h
  refine (append_fine h1 h2 h6 hp hpr htab hcrc tv bs (Stay.old hbytes h1.1.low) hlen (by omega) hR2 (by omega) (by omega) hrm).mono ?_
  rintro e Z ⟨rfl, Fr2, v', l', D', g1, g2, g3, g4, g5, _, g6, g7⟩
  exact ⟨rfl, Fr2, ⟨_, v', l', D', _, _, g3, g4, by omega, by omega, by rw [List.length_append, List.length_singleton]; omega, g5⟩, hrow.keep g1 g6⟩
/-- .. and where it is too long. -/
theorem LgK.append_long {p : ByteArray} {room lb db R m : Nat} {Fr : Nat → Prop} {w wr : World} {K : List (List Nat)} (h : LgK p room Fr w lb db R wr K m)
    (hcrc : ∀ W', Below w.heap.size w W' → Tab W') (tv : Value) (bs : List Nat) (hbytes : Bytes w.heap.size w tv bs) (hlen : ¬ bs.length ≤ 65536) :
    Calls Tryz.prog 19 #[.pointer (some ⟨lb, 0, none⟩), tv] wr fun e Z => e = .returned (.tuple #[.int .i64 0, .int .i64 2]) ∧ Below wr.heap.size wr Z := by
  obtain ⟨base, v, l, D, U, M, h1, h2⟩ := h
  exact Seglog.append_long h1.2.block (hcrc wr h1.1.low) tv bs ((hbytes.below h1.1.low).more h1.1.low.size) hlen

/-- A log beside a row of another kind that turns. -/
theorem LgK.other {p : ByteArray} {room lb db R m : Nat} {Fr : Nat → Prop} {w wr wr' : World} {K : List (List Nat)} (h : LgK p room Fr w lb db R wr K m) {r : Option Nat} (hg : wr.grownBy wr' r) (hr : ∀ g, r = some g → Fr g ∧ Alien wr g) : LgK p room (Plus Fr wr wr') w lb db R wr' K m := by
  obtain ⟨base, v, l, D, U, M, h1, h2⟩ := h
  refine ⟨base, v, l, D, U, M, ⟨h1.1.turnAdd hg.size (fun k hk hf => hg.block k hk (fun e => hf (hr k e.symm).1)) hg.os hg.tape hg.output, ?_⟩, h2⟩
  have hne : ∀ k, r = some k → k ≠ lb ∧ v.ownBlock ≠ some k ∧ ∀ q ∈ l, q.2.ownBlock ≠ some k := fun k hk => (hr k hk).2.log h1.2
  refine ⟨h1.2.le, (hg.block lb h1.2.block.lt (fun e => (hne lb e.symm).1 rfl)).trans h1.2.block, ⟨h1.2.segs.1.keep fun g hv => hg.block g (h1.2.segs.1.own g hv).2.1 (fun e => (hne g e.symm).2.1 hv), fun q hq => (h1.2.segs.2 q hq).keep fun g hv => hg.block g ((h1.2.segs.2 q hq).own g hv).2.1 (fun e => (hne g e.symm).2.2 q hq hv)⟩, .inl h1.2.rl, fun g hv => .inl (h1.2.rv g hv), fun q hq g hv => .inl (h1.2.re q hq g hv), fun k hk => ?_⟩
  rcases hk with hk | hk
  · exact Nat.lt_of_lt_of_le (h1.2.lt k hk) hg.size
  · exact hk.2

theorem info_slice8 : (Tryz.prog.info? 29).map (fun i => (i.zero, i.size, i.bytes)) = some (some (.slice none 0 0), 1, 24) := by kernel_rfl

/-- The entry is kept. -/
theorem push_row {p : ByteArray} {room lb db R m : Nat} {Fr : Nat → Prop} {w wr : World} {K' K : List (List Nat)} {kv : Value} (h : LgK p room Fr w lb db R wr K' m) (hrow : Rowy w wr Fr kv K) (tv : Value) (bs : List Nat) (hbytes : Bytes w.heap.size w tv bs) (hK : K.length ≤ 1000) (ty : TypeId) :
    ∃ A c W', (Builtin.append_ #[38, 38] ty #[kv, .slice (some ⟨wr.heap.size, 0, none⟩) 1 1]).run Tryz.prog (wr.alloc (.cells #[tv] 29)) = .ok (.slice A (K.length + 1) c) W' ∧ ∃ Fr', LgK p room Fr' w lb db R W' K' m ∧ Rowy w W' Fr' (.slice A (K.length + 1) c) (K ++ [bs]) := by
  obtain ⟨i0, hi, hz0, hz1, hz2⟩ := info_parts info_slice8
  have hB : Below wr.heap.size wr (wr.alloc (.cells #[tv] 29)) := (Below.refl _ _).alloc (Nat.le_refl _) _
  have hrow2 := hrow.below h hB
  have h2 := h.below hB
  have ha := hrow2.alien
  obtain ⟨X, e1, e2, e3, e5⟩ := hrow2
  obtain ⟨tA, tc, rfl⟩ := hbytes.form
  have hI : RowAt slV (fun k => k < (wr.alloc (.cells #[.slice tA bs.length tc] 29)).heap.size) (wr.alloc (.cells #[.slice tA bs.length tc] 29)) (.slice (some ⟨wr.heap.size, 0, none⟩) 1 1) [(tA, bs.length, tc)] := ⟨_, 1, rfl, Nat.le_refl _, (fun h => by cases h), fun _ => ⟨wr.heap.size, 0, rfl, by simp, fun j x hx => by
    match j, hx with
    | 0, hx =>
      simp at hx; subst hx
      simp only [World.cell?, heap_alloc_new wr (.cells #[.slice tA bs.length tc] 29)]
      rfl
    | j + 1, hx => simp at hx⟩⟩
  have hlow := h2.low.size
  obtain ⟨v', W', hrun, hO, hg, hown⟩ := run_append_row (P := Tryz.prog) (wr.alloc (.cells #[.slice tA bs.length tc] 29)) ty (fun _ => rfl) Tryz.underlying38 hi hz0 hz1 hz2 rfl e1 hI (by simp [maxLen]; omega) (by simp; omega) hlow
  obtain ⟨A, c, hv, _⟩ := hO.form
  rw [List.length_append, List.length_singleton, e2] at hv
  subst hv
  refine ⟨A, c, W', hrun, _, h2.other hg ha, X ++ [(tA, bs.length, tc)], hO, by rw [List.length_append, List.length_append, e2]; rfl, fun g hv => ?_, fun j x hx => ?_⟩
  · rcases hown with h3 | h3
    · exact .inl (e3 g (by rw [← h3]; exact hv))
    · rw [hv] at h3
      obtain rfl := Option.some.inj h3
      exact .inr ⟨Nat.le_refl _, (hO.own hv).2⟩
  · rcases Nat.lt_or_ge j X.length with h3 | h3
    · rw [List.getElem?_append_left h3] at hx
      obtain ⟨b, h4, h5⟩ := e5 j x hx
      exact ⟨b, by rw [List.getElem?_append_left (by omega)]; exact h4, h5⟩
    · rw [List.getElem?_append_right h3] at hx
      obtain ⟨h4, h5⟩ := List.getElem?_eq_some_iff.1 hx
      have h6 : j - X.length = 0 := by simp at h4; omega
      refine ⟨bs, by rw [List.getElem?_append_right (by omega), ← e2, h6]; rfl, ?_⟩
      rw [h6] at hx
      simp at hx
      subst hx
      exact hbytes

/-- What is left of the log. -/
def LgL (p : ByteArray) (room : Nat) (Fr : Nat → Prop) (w : World) (lb db : Nat) (wr : World) (K : List (List Nat)) (F q : Nat) : Prop :=
  ∃ base v l D M, Lg Fr w base lb db D p room false v l wr ∧ Left D p l K M ∧ M ≤ 1000 + 1000 * q ∧ firstL (l.map (·.1)) = F
theorem LgL.below {p : ByteArray} {room lb db F q : Nat} {Fr : Nat → Prop} {w wr wr' : World} {K : List (List Nat)} (h : LgL p room Fr w lb db wr K F q) (hB : Below wr.heap.size wr wr') : LgL p room Fr w lb db wr' K F q := by
  obtain ⟨base, v, l, D, M, h1, h2⟩ := h
  exact ⟨base, v, l, D, M, ⟨Dx.below h1.1 hB, LogIn.same h1.2 (Dx.sameOn h1.1 hB)⟩, h2⟩
theorem LgL.low {p : ByteArray} {room lb db F q : Nat} {Fr : Nat → Prop} {w wr : World} {K : List (List Nat)} (h : LgL p room Fr w lb db wr K F q) : Below w.heap.size w wr := by
  obtain ⟨base, v, l, D, M, h1, h2⟩ := h
  exact h1.1.low
theorem LgL.in {p : ByteArray} {room lb db F q : Nat} {Fr : Nat → Prop} {w wr : World} {K : List (List Nat)} (h : LgL p room Fr w lb db wr K F q) {k : Nat} (hk : Fr k) : k < wr.heap.size := by
  obtain ⟨base, v, l, D, M, h1, h2⟩ := h
  exact (Dx.in h1.1 hk).2
theorem Rowy.belowL {p : ByteArray} {room lb db F q : Nat} {Fr : Nat → Prop} {w wr wr' : World} {K' K : List (List Nat)} {kv : Value} (hr : Rowy w wr Fr kv K) (h : LgL p room Fr w lb db wr K' F q) (hB : Below wr.heap.size wr wr') : Rowy w wr' Fr kv K :=
  hr.keep (fun _ hk => hk) (fun k hk _ => hB.block k (h.in hk))
theorem LgK.sync_calls {p : ByteArray} {room lb db R m : Nat} {Fr : Nat → Prop} {w wr : World} {K : List (List Nat)} {kv : Value} (h : LgK p room Fr w lb db R wr K m) (hrow : Rowy w wr Fr kv K) (hp : p.size ≤ 13) (htab : Tab10 w) (hm : m ≤ 1000) :
    Calls Tryz.prog 23 #[.pointer (some ⟨lb, 0, none⟩)] wr fun e Z => e = .returned (.int .i64 0) ∧ Below w.heap.size w Z ∧ Rowy w Z Fr kv K ∧ (K ≠ [] → LgL p room Fr w lb db Z K 0 0) := by
  obtain ⟨base, v, l, D, U, M, h1, h2, h3, h4, h5, h6⟩ := h
  have hle : ∀ q ∈ l, q.1.next ≤ 1000 := fun q hq => Nat.le_trans (h2.le q hq) (by omega)
  obtain ⟨t0, _⟩ := there_all h2.fails (fun q hq => (h2.file q hq).1)
  have hc := Seglog.sync_calls h1 hp (fun q hq => by have := hle q hq; unfold Sg.next at this; omega) (by have := h2.len; omega) htab
  rw [t0] at hc
  refine hc.mono ?_
  rintro e Z ⟨rfl, g1, g2⟩
  refine ⟨rfl, g1.1.low, hrow.keep (fun _ hk => hk) (fun k hk ha => g2 k hk (ha.log h1.2).1), fun hK => ?_⟩
  obtain ⟨_, hs⟩ := (h2.left hK).synced
  exact ⟨base, v, l, _, M, g1, hs, by omega, h2.first⟩
theorem LgL.first_calls {p : ByteArray} {room lb db F q : Nat} {Fr : Nat → Prop} {w wr : World} {K : List (List Nat)} (h : LgL p room Fr w lb db wr K F q) (hK : K.length ≤ 1000) :
    Calls Tryz.prog 13 #[.pointer (some ⟨lb, 0, none⟩)] wr fun e Z => e = .returned (.int .i64 (F : Nat)) ∧ Below wr.heap.size wr Z := by
  obtain ⟨base, v, l, D, M, h1, h2, _, h4⟩ := h
  have hc := Seglog.first_calls h1.2 (by have := h2.len; omega)
  rw [h4] at hc
  refine hc.mono ?_
  rintro e Z ⟨rfl, rfl⟩
  exact ⟨rfl, Below.refl _ _⟩
theorem LgL.next_calls {p : ByteArray} {room lb db F q : Nat} {Fr : Nat → Prop} {w wr : World} {K : List (List Nat)} (h : LgL p room Fr w lb db wr K F q) (hK : K.length ≤ 1000) :
    Calls Tryz.prog 16 #[.pointer (some ⟨lb, 0, none⟩)] wr fun e Z => e = .returned (.int .i64 (K.length : Nat)) ∧ Below wr.heap.size wr Z := by
  obtain ⟨base, v, l, D, M, h1, h2, _, h4⟩ := h
  have hc := nxt_calls h1.2 (by have := h2.len; omega) (fun q hq => by have := h2.le q hq; omega)
  rwa [h2.next] at hc
theorem LgL.cut_calls {p : ByteArray} {room lb db F q : Nat} {Fr : Nat → Prop} {w wr : World} {K : List (List Nat)} {kv : Value} (h : LgL p room Fr w lb db wr K F q) (hrow : Rowy w wr Fr kv K) (hp : p.size ≤ 13) (htab : Tab10 w) (hK : K.length ≤ 1000) (hq : q ≤ 1000) (a : Nat) (h1 : F ≤ a) (h2 : a ≤ K.length) :
    Calls Tryz.prog 25 #[.pointer (some ⟨lb, 0, none⟩), .int .i64 (a : Nat)] wr fun e Z => e = .returned (.int .i64 0) ∧ ∃ F', F' ≤ a ∧ LgL p room Fr w lb db Z K F' (q + 1) ∧ Rowy w Z Fr kv K := by
  obtain ⟨base, v, l, D, M, g1, g2, g3, g4⟩ := h
  obtain ⟨G, DF, e1, e2, e3, e4⟩ := g2.cut a (by rw [g4]; exact h1)
  have hle : ∀ q ∈ l, q.1.next ≤ 1000 := fun q hq => Nat.le_trans (g2.le q hq) hK
  have hll := g2.len
  refine (cutHeadL_calls g1 hp (by have := g2.made; omega) (fun q hq => by have := hle q hq; unfold Sg.next at this; omega) (fun q hq => by have := hle q hq; omega) (by omega) (List.length_pos_iff.2 g2.ne) (fun A n c hv => ?_) htab a (by rw [g4]; exact h1) (by rw [g2.next]; exact h2) rfl e2 G e1).mono ?_
  · have := g1.2.segs.1
    rw [hv] at this
    rcases this.2 with ⟨h5, _⟩ | ⟨g, o, cap, cur, h5, _, _, _, h6, _⟩
    · simp only [Value.slice.injEq] at h5; omega
    · simp only [Value.slice.injEq] at h5
      simp only [maxLen] at h6
      omega
  · rintro e Z ⟨rfl, v', g5, g6⟩
    exact ⟨rfl, _, e4, ⟨base, v', _, DF, _, g5, e3, by omega, rfl⟩, hrow.keep (fun _ hk => hk) (fun k hk ha => g6 k hk (ha.log g1.2).1 (ha.log g1.2).2.1)⟩
/-- Read: the row that was kept, in a new block. -/
theorem LgL.read_calls {p : ByteArray} {room lb db F q : Nat} {Fr : Nat → Prop} {w wr : World} {K : List (List Nat)} (h : LgL p room Fr w lb db wr K F q) (hK : K.length ≤ 1000) (k : Nat) (h1 : F ≤ k) (h2 : k < K.length) (bs : List Nat) (hbs : K[k]? = some bs) (h256 : ∀ x ∈ bs, x < 256) :
    Calls Tryz.prog 21 #[.pointer (some ⟨lb, 0, none⟩), .int .i64 (k : Nat)] wr fun e Z => (∃ A c, e = .returned (.tuple #[.slice A bs.length c, .int .i64 0]) ∧ Bytes Z.heap.size Z (.slice A bs.length c) bs) ∧ Below wr.heap.size wr Z := by
  obtain ⟨base, v, l, D, M, g1, g2, g3, g4⟩ := h
  obtain ⟨i, x, j, y, e1, e2, e3, e4, e5⟩ := g2.at k (by rw [g4]; exact h1) h2
  rw [hbs] at e5
  obtain rfl := Option.some.inj e5
  refine (Seglog.read_calls g1.2 g2.goes (by have := g2.len; omega) (fun q hq => by have := g2.le q hq; omega) k i j x y (by rw [g4]; exact h1) (by rw [g2.next]; exact h2) e1 e2 e3 e4 (by omega)).mono ?_
  rintro e Z ⟨w1, hB, rfl, rfl⟩
  have hsz : (txt y.bs).size = y.bs.length := by show (y.bs.map UInt8.ofNat).toArray.size = _; simp
  rw [hsz]
  refine ⟨⟨_, _, rfl, ⟨_, _, rfl, ?_, (fun h => by cases h), h256, fun hp => ⟨w1.heap.size, 0, rfl, by rw [Lib.bytesWorld_size]; omega, fun i hi => ?_⟩⟩⟩, hB.trans ⟨rfl, rfl, rfl, by rw [Lib.bytesWorld_size]; omega, fun k hk => Lib.bytesWorld_at_old w1 _ _ k (by have := hB.size; omega)⟩⟩
  · exact grownCap_ge _ _ _ _
  · rw [Nat.zero_add, Lib.bytesWorld_cell w1 _ _ i (by rw [hsz]; exact hi)]
    have h3 := h256 _ (List.getElem_mem hi)
    simp [txt, List.getD, hi]
    omega

end Go.Proofs.YtnhkpemajknfnaaGreatDoor.Seglog

/-
  Contracts of the shelf at this program: the tables of numbers, and each body as the contract's own. No conditions.
-/
namespace Go.Proofs
open Go.Shelf
def Tryz.sortSeg_ren : Go.Shelf.Ren := ⟨fun | 6 => 79 | 15 => 84 | 14 => 91 | 28 => 103 | 29 => 104 | 20 => 109 | 21 => 110 | 22 => 111 | 23 => 112 | 24 => 113 | 25 => 114 | 26 => 115 | 27 => 116 | 46 => 136 | 47 => 118 | 48 => 119 | 49 => 137 | 50 => 138 | 57 => 148 | n => n, fun | 22 => 79 | 24 => 84 | 25 => 120 | 3 => 3 | 39 => 136 | 0 => 0 | 53 => 115 | 55 => 56 | 4 => 4 | 46 => 143 | 45 => 142 | 50 => 118 | 5 => 5 | 9 => 9 | 66 => 162 | 70 => 166 | 76 => 180 | 77 => 181 | n => n, fun | n => n⟩
theorem Tryz.sortSeg : Go.Proofs.SlLaysF0.n6 Tryz.prog Tryz.sortSeg_ren := {
  mixed := by kernel_rfl
  f6 := ⟨Tryz.f79.name, by decide, Tryz.func79.trans (congrArg some (by kernel_rfl))⟩
  f14 := ⟨Tryz.f91.name, by decide, Tryz.func91.trans (congrArg some (by kernel_rfl))⟩
  f15 := Tryz.func84.trans (congrArg some (by kernel_rfl))
  f20 := ⟨Tryz.f109.name, by decide, Tryz.func109.trans (congrArg some (by kernel_rfl))⟩
  f21 := ⟨Tryz.f110.name, by decide, Tryz.func110.trans (congrArg some (by kernel_rfl))⟩
  f22 := ⟨Tryz.f111.name, by decide, Tryz.func111.trans (congrArg some (by kernel_rfl))⟩
  f23 := ⟨Tryz.f112.name, by decide, Tryz.func112.trans (congrArg some (by kernel_rfl))⟩
  f24 := ⟨Tryz.f113.name, by decide, Tryz.func113.trans (congrArg some (by kernel_rfl))⟩
  f25 := ⟨Tryz.f114.name, by decide, Tryz.func114.trans (congrArg some (by kernel_rfl))⟩
  f26 := ⟨Tryz.f115.name, by decide, Tryz.func115.trans (congrArg some (by kernel_rfl))⟩
  f27 := ⟨Tryz.f116.name, by decide, Tryz.func116.trans (congrArg some (by kernel_rfl))⟩
  f28 := Tryz.func103.trans (congrArg some (by kernel_rfl))
  f29 := Tryz.func104.trans (congrArg some (by kernel_rfl))
  f46 := ⟨Tryz.f136.name, by decide, Tryz.func136.trans (congrArg some (by kernel_rfl))⟩
  f47 := Tryz.func118.trans (congrArg some (by kernel_rfl))
  f48 := Tryz.func119.trans (congrArg some (by kernel_rfl))
  f49 := ⟨Tryz.f137.name, by decide, Tryz.func137.trans (congrArg some (by kernel_rfl))⟩
  f50 := ⟨Tryz.f138.name, by decide, Tryz.func138.trans (congrArg some (by kernel_rfl))⟩
  f57 := ⟨Tryz.f148.name, by decide, Tryz.func148.trans (congrArg some (by kernel_rfl))⟩
  t0 := Tryz.underlying0
  a0 := Tryz.isAgg0
  z0 := Tryz.sizeOf0
  v0 := Tryz.zeroValue0
  t3 := Tryz.underlying3
  a3 := Tryz.isAgg3
  z3 := Tryz.sizeOf3
  v3 := Tryz.zeroValue3
  t4 := Tryz.underlying4
  a4 := Tryz.isAgg4
  z4 := Tryz.sizeOf4
  v4 := Tryz.zeroValue4
  t5 := Tryz.underlying5
  a5 := Tryz.isAgg5
  z5 := Tryz.sizeOf5
  v5 := Tryz.zeroValue5
  t9 := Tryz.underlying9
  a9 := Tryz.isAgg9
  z9 := Tryz.sizeOf9
  v9 := Tryz.zeroValue9
  t22 := Tryz.underlying79
  a22 := Tryz.isAgg79
  z22 := Tryz.sizeOf79
  v22 := Tryz.zeroValue79
  t25 := Tryz.underlying120
  a25 := Tryz.isAgg120
  z25 := Tryz.sizeOf120
  v25 := Tryz.zeroValue120
  t39 := Tryz.underlying136
  a39 := Tryz.isAgg136
  z39 := Tryz.sizeOf136
  v39 := Tryz.zeroValue136
  t45 := Tryz.underlying142
  a45 := Tryz.isAgg142
  z45 := Tryz.sizeOf142
  v45 := Tryz.zeroValue142
  t46 := Tryz.underlying143
  a46 := Tryz.isAgg143
  z46 := Tryz.sizeOf143
  v46 := Tryz.zeroValue143
  t50 := Tryz.underlying118
  a50 := Tryz.isAgg118
  z50 := Tryz.sizeOf118
  v50 := Tryz.zeroValue118
  t53 := Tryz.underlying115
  a53 := Tryz.isAgg115
  z53 := Tryz.sizeOf115
  v53 := Tryz.zeroValue115
  t55 := Tryz.underlying56
  a55 := Tryz.isAgg56
  z55 := Tryz.sizeOf56
  v55 := Tryz.zeroValue56
  t66 := Tryz.underlying162
  a66 := Tryz.isAgg162
  z66 := Tryz.sizeOf162
  v66 := Tryz.zeroValue162
  t70 := Tryz.underlying166
  a70 := Tryz.isAgg166
  z70 := Tryz.sizeOf166
  v70 := Tryz.zeroValue166
  t76 := Tryz.underlying180
  a76 := Tryz.isAgg180
  z76 := Tryz.sizeOf180
  v76 := Tryz.zeroValue180
  t77 := Tryz.underlying181
  a77 := Tryz.isAgg181
  z77 := Tryz.sizeOf181
  v77 := Tryz.zeroValue181 }
end Go.Proofs

/-
  Contracts of the log's Open where the disk has no files.
-/
namespace Go.Proofs.YtnhkpemajknfnaaGreatDoor.Seglog
open Go Go.RowKit Go.Lib Go.Sort Go.Proofs.YtnhkpemajknfnaaGreatDoor.Law Go.Proofs.YtnhkpemajknfnaaGreatDoor.Disk

theorem sortNone (cap : Nat) (A : Option Addr) (W : World) : Calls Tryz.prog 79 #[.slice A 0 cap, .func (.func 73) #[] #[]] W fun e W' => e = .returned (.tuple #[]) ∧ W' = W := by
  have hcon := AnyF.slices_SortFunc_none (P := Tryz.prog) (ρ := _) { Tryz.sortSeg with } A cap (.func (.func 73) #[] #[]) W
  exact hcon

/-- Names of a disk that has none. -/
def NoNames (db : Nat) (W : World) : Prop := ∀ W0, Below W.heap.size W W0 → Calls Tryz.prog 77 #[.pointer (some ⟨db, 0, none⟩)] W0 fun e W' => (∃ A c, e = .returned (.slice A 0 c)) ∧ Below W0.heap.size W0 W'

set_option maxRecDepth 100000 in
set_option maxHeartbeats 2000000 in
theorem found_none {lb db room : Nat} {p : ByteArray} {v : Value} {bk : Bool} {W : World} (h : LB W lb db p room v bk) (hN : NoNames db W) :
    Calls Tryz.prog 58 #[.pointer (some ⟨lb, 0, none⟩)] W fun e W' => e = .returned (.slice none 0 0) ∧ Below W.heap.size W W' := by
  have CN := Lib.hid (hN W (Below.refl _ _))
  have c0 := h.cells.1.1
  have hlt := h.lt
  clear h hN
  go_enter Tryz.func58, Tryz.ntmps58
  go_wp2_with fail
  go_step3
  go_wp2_with fail
  go_step3
  go_wp2_with fail
  refine CN.out.mono ?_
  rintro e W2 ⟨⟨A, c, rfl⟩, hB⟩
  have HB := Lib.hid hB
  clear hB CN
  go_wp2_with fail
  go_loopw [3, 19] (fun u v wr => u = .slice none 0 0 ∧ v = .int .i64 0 ∧ wr = W2) (fun _ _ _ => 0)
  case atStart => exact ⟨rfl, rfl, rfl⟩
  case round =>
    obtain ⟨rfl, rfl, rfl⟩ := hrel
    go_wp2_with fail
    refine (sortNone 0 none _).mono ?_
    rintro e W3 ⟨rfl, rfl⟩
    go_wp2_with fail
    rw [Exit.noGoto_ret]
    go_ret
    exact ⟨rfl, HB.out⟩

set_option maxRecDepth 100000 in
set_option maxHeartbeats 2000000 in
theorem repair_none {lb db room : Nat} {p : ByteArray} {v : Value} {bk : Bool} {W : World} (h : LB W lb db p room v bk) (hN : NoNames db W) :
    Calls Tryz.prog 35 #[.pointer (some ⟨lb, 0, none⟩)] W fun e W' => e = .returned (.int .i64 0) ∧ Below W.heap.size W W' := by
  have CN := Lib.hid (found_none h hN)
  clear h hN
  go_enter Tryz.func35, Tryz.ntmps35
  go_wp2_with fail
  refine CN.out.mono ?_
  rintro e W2 ⟨rfl, hB⟩
  have HB := Lib.hid hB
  clear hB CN
  go_wp2_with fail
  go_loopw [13] (fun v wr => v = .int .i64 0 ∧ wr = W2) (fun _ _ => 0)
  case atStart => exact ⟨rfl, rfl⟩
  case round =>
    obtain ⟨rfl, rfl⟩ := hrel
    go_wp2_with fail
    go_ret
    exact ⟨rfl, HB.out⟩

/-- The name with '-' behind. -/
def pre (s : ByteArray) : ByteArray := s ++ ⟨#[45]⟩

set_option maxRecDepth 100000 in
set_option maxHeartbeats 4000000 in
theorem open_none {Fr : Nat → Prop} {w W : World} {db : Nat} {D : DS} (h : Dx Fr w db D W) (s : ByteArray) (hs : rightS s = true) (room : Nat) (hr : 1 ≤ room ∧ room ≤ 1048576) (hN : NoNames db W) :
    Calls Tryz.prog 12 #[.pointer (some ⟨db, 0, none⟩), .string s, .int .i64 (room : Nat)] W fun e W' => ∃ lb, e = .returned (.tuple #[.pointer (some ⟨lb, 0, none⟩), .int .i64 0]) ∧ W.heap.size ≤ lb ∧ Lg (Plus Fr W W') w W.heap.size lb db D (pre s) room false (.slice none 0 0) [] W' ∧ Below W.heap.size W W' := by
  have hss : s.size ≤ 12 := by
    unfold rightS at hs
    simp only [Bool.and_eq_true, decide_eq_true_eq] at hs
    omega
  have C0 := rightName_calls s W (by omega)
  rw [hs] at C0
  have C0 := Lib.hid C0
  have C1 : Hid (∀ (W2 : World) (lb : Nat), Below W.heap.size W W2 → LB W2 lb db (pre s) room (.slice none 0 0) false → Calls Tryz.prog 35 #[.pointer (some ⟨lb, 0, none⟩)] W2 fun e W' => e = .returned (.int .i64 0) ∧ Below W2.heap.size W2 W') := Lib.hid fun W2 lb h2 hb => repair_none hb (fun W0 h0 => hN W0 (h2.trans (h0.mono h2.size)))
  have hr1 : ¬ (room : Int) < 1 := by omega
  have hr2 : ¬ (1048576 : Int) < (room : Int) := by omega
  have H := Lib.hid h
  have hsz : (s ++ (⟨#[45]⟩ : ByteArray)).size = s.size + 1 := by rw [ByteArray.size_append]; rfl
  obtain ⟨P, hP⟩ : ∃ P, s ++ (⟨#[45]⟩ : ByteArray) = P := ⟨_, rfl⟩
  clear hs hr h hN
  go_enter Tryz.func12, Tryz.ntmps12
  go_wp2_with fail
  refine C0.out.mono ?_
  rintro e W1 ⟨rfl, hB1⟩
  have HB1 := Lib.hid hB1
  clear hB1 C0
  go_wp2_with fail
  have HB2 : Hid (Below W.heap.size W (W1.alloc (.cells #[.pointer (some ⟨db, 0, none⟩), .string P, .int .i64 (room : Nat), .slice none 0 0, .bool false] 81))) := Lib.hid (HB1.out.alloc HB1.out.size _)
  have HL2 : Hid (LB (W1.alloc (.cells #[.pointer (some ⟨db, 0, none⟩), .string P, .int .i64 (room : Nat), .slice none 0 0, .bool false] 81)) W1.heap.size db (pre s) room (.slice none 0 0) false) := Lib.hid (by
    unfold LB pre
    rw [hP]
    exact heap_alloc_new W1 _)
  refine (C1.out _ _ HB2.out HL2.out).mono ?_
  clear C1
  rintro e W3 ⟨rfl, hB3⟩
  have HB3 : Hid (Below W.heap.size W W3) := Lib.hid (HB2.out.trans (hB3.mono HB2.out.size))
  have HL3 : Hid (LB W3 W1.heap.size db (pre s) room (.slice none 0 0) false) := Lib.hid (HL2.out.below hB3)
  have hls : W1.heap.size < W3.heap.size := HL3.out.lt
  have HLS := Lib.hid hls
  clear hB3 HB2 HL2 hls
  go_wp2_with fail
  refine bodyPost_ret (v := .tuple #[.pointer (some ⟨W1.heap.size, 0, none⟩), .int .i64 0]) (by simp [results, Tryz.results12, go_sem]) rfl ?_
  refine ⟨_, rfl, HB1.out.size, ⟨Dx.add H.out HB3.out, ⟨HB1.out.size, HL3.out, SegsAt.nil _ _, .inr ⟨HB1.out.size, HLS.out⟩, (fun g hg => by cases hg), (fun q hq => by simp at hq), fun k hk => ?_⟩⟩, HB3.out⟩
  rcases hk with hk | hk
  · exact Nat.lt_of_lt_of_le (Dx.in H.out hk).2 HB3.out.size
  · exact hk.2

end Go.Proofs.YtnhkpemajknfnaaGreatDoor.Seglog
