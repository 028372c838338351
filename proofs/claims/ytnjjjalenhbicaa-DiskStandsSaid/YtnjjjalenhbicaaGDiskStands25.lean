/-
  Put together out of texts of one chain: what they hold stands ahead of each.
-/
import Derived.Test.YtnjjjalenhbicaaGDiskStands24
import Derived.Test.YtnjjjalenhbicaaGDiskStands20
import Derived.Test.YtnjjjalenhbicaaGDiskStands22
import Derived.Deep.RegionHeld3
import Derived.Deep.RegionLaw
import Derived.Deep.RegionWith
/-
  Contracts of the disk's Fail, Limit, Used.
-/
namespace Go.Proofs.Ytnjjjalenhbicaa.Disk
open Go Go.RowKit Go.Sort Go.Lib Go.Proofs.Ytnjjjalenhbicaa.Law

/-- A cell of the disk's own block is written. -/
theorem disk_set {w W : World} {O : Owner} {db i : Nat} {D D' : DS} (u : Value) (h : DiskAt w O db D) (hB : Below w.heap.size w W)
    (hd : ∀ mb, DB W db mb (D.room : Int) (D.used : Int) (D.made : Int) D.fails → DB (W.setCell ⟨db, i, none⟩ u) db mb (D'.room : Int) (D'.used : Int) (D'.made : Int) D'.fails)
    (h1 : D'.names = D.names) (h2 : D'.now = D.now) (h3 : D'.safe = D.safe) (h4 : D'.chs = D.chs) (h5 : D'.made = D.made) :
    DiskAt (W.setCell ⟨db, i, none⟩ u) O db D' ∧ Past w O (W.setCell ⟨db, i, none⟩ u) O := by
  obtain ⟨mb, F, hc, hf⟩ := h.below hB
  have hdb := hc.disk.lt
  have hdbm : db ≠ mb := fun e => by
    obtain ⟨n, _, hm⟩ := hc.map
    obtain ⟨a, c, h2⟩ := hm.isMap
    have h1 := hc.disk
    unfold DB at h1
    rw [e, h2] at h1
    cases h1
  have hset : ∀ k, k ≠ db → (W.setCell ⟨db, i, none⟩ u).heap[k]? = W.heap[k]? := fun k hk => Below.heap_setCell _ _ _ _ hk
  have hsz : (W.setCell ⟨db, i, none⟩ u).heap.size = W.heap.size := by simp [World.setCell]
  obtain ⟨_, _, hc0, _⟩ := h
  have hodb := hc.odb
  refine ⟨⟨mb, F, ⟨hd mb hc.disk, ?_, hc.odb, hc.omb, by rw [h1]; exact hc.dom, fun k hk => by rw [hsz]; exact hc.lt k hk⟩, fun s hs => ?_⟩, ⟨hB.os, hB.tape, hB.output, by rw [hsz]; exact hB.size, fun k hk ho => ?_, fun _ _ h => h⟩⟩
  · obtain ⟨n, hn, hm⟩ := hc.map
    exact ⟨n, by rw [h5]; exact hn, hm.at (hset mb (Ne.symm hdbm))⟩
  · rw [h1] at hs
    obtain ⟨fb, h6, h7⟩ := hf s hs
    rw [h2, h3, h4]
    exact ⟨fb, h6, h7.keep fun k _ ho => ⟨hset k (fun e => by rw [e, hodb] at ho; cases ho), ho⟩⟩
  · rw [hset k (fun e => by rw [e, hodb] at ho; cases ho), hB.block k hk]

def DS.fail (D : DS) (b : Bool) : DS := { D with fails := b }
def DS.limit (D : DS) (r : Int) : DS := if 0 ≤ r ∧ r ≤ 1073741824 then { D with room := r.toNat } else D
def limitN (r : Int) : Nat := if 0 ≤ r ∧ r ≤ 1073741824 then 0 else 1
theorem WF.fail {D : DS} (h : WF D) (b : Bool) : WF (D.fail b) := ⟨h.nodup, h.names, h.right, h.count, h.nowSz, h.safeSz, h.chSz, h.asc, h.below, h.kind, h.len, h.room, h.used⟩
theorem WF.limit {D : DS} (h : WF D) (r : Int) : WF (D.limit r) := by
  unfold DS.limit
  split
  · exact ⟨h.nodup, h.names, h.right, h.count, h.nowSz, h.safeSz, h.chSz, h.asc, h.below, h.kind, h.len, by show r.toNat ≤ _; omega, h.used⟩
  · exact h

set_option maxRecDepth 100000 in
set_option maxHeartbeats 2000000 in
theorem failD_calls (w : World) (O : Owner) (db : Nat) (D : DS) (h : DiskAt w O db D) (b : Bool) :
    Calls Try.prog 12 #[.pointer (some ⟨db, 0, none⟩), .bool b] w fun e W => e = .returned (.tuple #[]) ∧ DiskAt W O db (D.fail b) ∧ Past w O W O := by
  obtain ⟨mb, hd⟩ := h.db
  obtain ⟨⟨d0, d1, d2, d3, d4⟩, dz⟩ := hd.cells
  have dz4 := dz 4
  have HF := Lib.hid (disk_set (i := 4) (.bool b) (D' := D.fail b) h (Below.refl _ _) (fun mb hd => (block_set hd 4 _).trans (by simp [DS.fail])) rfl rfl rfl rfl rfl)
  clear h hd dz d0 d1 d2 d3
  go_enter Try.func12, Try.ntmps12
  go_wp2_with fail
  go_end0
  exact ⟨rfl, HF.out⟩

set_option maxRecDepth 100000 in
set_option maxHeartbeats 2000000 in
theorem limitD_calls (w : World) (O : Owner) (db : Nat) (D : DS) (h : DiskAt w O db D) (r : Int) :
    Calls Try.prog 26 #[.pointer (some ⟨db, 0, none⟩), .int .i64 r] w fun e W => e = .returned (.int .i64 (limitN r : Nat)) ∧ DiskAt W O db (D.limit r) ∧ Past w O W O := by
  obtain ⟨mb, hd⟩ := h.db
  obtain ⟨⟨d0, d1, d2, d3, d4⟩, dz⟩ := hd.cells
  have dz1 := dz 1
  have CR := Lib.hid (rightRoom_calls r w)
  by_cases hr : 0 ≤ r ∧ r ≤ 1073741824
  · have e1 : D.limit r = { D with room := r.toNat } := by unfold DS.limit; rw [if_pos hr]
    have e2 : limitN r = 0 := by unfold limitN; rw [if_pos hr]
    have e3 : ((r.toNat : Nat) : Int) = r := by omega
    rw [e1, e2]
    have HF := Lib.hid (disk_set (i := 1) (.int .i64 r) (D' := { D with room := r.toNat }) h (Below.refl _ _) (fun mb hd => (block_set hd 1 _).trans (by simp [e3])) rfl rfl rfl rfl rfl)
    rw [decide_eq_true hr] at CR
    clear h hd dz d0 d2 d3 d4 e1 e2 e3 hr
    go_enter Try.func26, Try.ntmps26
    go_wp2_with fail
    refine CR.out.mono ?_
    rintro e W ⟨rfl, rfl⟩
    go_wp2_with fail
    go_ret
    exact ⟨rfl, HF.out⟩
  · have e1 : D.limit r = D := by unfold DS.limit; rw [if_neg hr]
    have e2 : limitN r = 1 := by unfold limitN; rw [if_neg hr]
    rw [e1, e2]
    have HF : Hid (DiskAt w O db D ∧ Past w O w O) := Lib.hid ⟨h, Past.refl _ _⟩
    rw [decide_eq_false hr] at CR
    clear h hd dz d0 d1 d2 d3 d4 e1 e2 hr
    go_enter Try.func26, Try.ntmps26
    go_wp2_with fail
    refine CR.out.mono ?_
    rintro e W ⟨rfl, rfl⟩
    go_wp2_with fail
    go_ret
    exact ⟨rfl, HF.out⟩

set_option maxRecDepth 100000 in
theorem usedD_calls (w : World) (O : Owner) (db : Nat) (D : DS) (h : DiskAt w O db D) :
    Calls Try.prog 27 #[.pointer (some ⟨db, 0, none⟩)] w fun e W => e = .returned (.int .i64 (D.used : Nat)) ∧ W = w := by
  obtain ⟨mb, hd⟩ := h.db
  obtain ⟨⟨d0, d1, d2, d3, d4⟩, dz⟩ := hd.cells
  clear h hd dz d0 d1 d3 d4
  go_enter Try.func27, Try.ntmps27
  go_wp2_with fail
  go_ret
  exact ⟨rfl, rfl⟩

end Go.Proofs.Ytnjjjalenhbicaa.Disk

/-
  A step that is done to both disks: what it leaves, out of what either call leaves.
-/
namespace Go.Proofs.Ytnjjjalenhbicaa.Disk
open Go Go.RowKit Go.Lib Go.Proofs.Ytnjjjalenhbicaa.Law

/-- A step's box. -/
def boxS (W : World) (s : Step) (dv pv : Value) : World := W.alloc (.cells #[.int .i64 s.kind, .string s.name, .int .i64 s.at', dv, pv] 37)
def stepV (s : Step) (dv pv : Value) : Value := .agg #[.int .i64 s.kind, .string s.name, .int .i64 s.at', dv, pv]
/-- The box's cells, as far as a call wants them. -/
def Boxed (W : World) (b : Nat) (s : Step) (dv pv : Value) : Prop :=
  W.cell? ⟨b, 1, none⟩ = some (.string s.name) ∧ W.cell? ⟨b, 2, none⟩ = some (.int .i64 s.at') ∧ W.cell? ⟨b, 3, none⟩ = some dv ∧ W.cell? ⟨b, 4, none⟩ = some pv ∧ b < W.heap.size
theorem boxS_new (W : World) (s : Step) (dv pv : Value) : (boxS W s dv pv).heap[W.heap.size]? = some (.cells #[.int .i64 s.kind, .string s.name, .int .i64 s.at', dv, pv] 37 (0, 0)) := by
  unfold boxS; simp only [World.alloc, Array.getElem?_push_size]
theorem Boxed.of {W : World} {b : Nat} {s : Step} {dv pv : Value} (h : W.heap[b]? = some (.cells #[.int .i64 s.kind, .string s.name, .int .i64 s.at', dv, pv] 37 (0, 0))) : Boxed W b s dv pv := by
  refine ⟨?_, ?_, ?_, ?_, (Array.getElem?_eq_some_iff.1 h).1⟩ <;> simp [World.cell?, h]

/-- Two calls, one behind the other, in either order. -/
def Turn (b : Nat) (s : Step) (dv pv : Value) (r1 r2 : Int) (f g : FuncId) (av bv : Array Value) (J : World → Prop) (W : World) : Prop :=
  Calls Try.prog f av W fun e W1 => e = .returned (.int .i64 r1) ∧ Boxed W1 b s dv pv ∧ Hid (Calls Try.prog g bv W1 fun e W2 => e = .returned (.int .i64 r2) ∧ Boxed W2 b s dv pv ∧ Hid (J W2))
def Duo (b : Nat) (s : Step) (dv pv : Value) (r1 r2 : Int) (f g : FuncId) (av bv : Array Value) (J : World → Prop) (W : World) : Prop :=
  Turn b s dv pv r1 r2 f g av bv J W.drew ∧ Turn b s dv pv r2 r1 g f bv av J W.drew
/-- What a step answers. -/
def StepO (r1 r2 : Int) (J : World → Prop) (e : Ending) (W : World) : Prop := ∃ t : Bool, e = .returned (.bool t) ∧ (r1 = r2 → t = true) ∧ J W

set_option maxRecDepth 100000 in
set_option maxHeartbeats 2000000 in
theorem step_write (db q : Nat) (s : Step) (h0 : s.kind = 0) (dA pA : Option Addr) (dl dc pl pc : Nat) (W : World) (r1 r2 : Int) (J : World → Prop)
    (h : Duo W.heap.size s (.slice dA dl dc) (.slice pA pl pc) r1 r2 21 30 #[.pointer (some ⟨db, 0, none⟩), .string s.name, .int .i64 s.at', .slice dA dl dc] #[.pointer (some ⟨q, 0, none⟩), .string s.name, .int .i64 s.at', .slice dA dl dc] J (boxS W s (.slice dA dl dc) (.slice pA pl pc))) :
    Calls Try.prog 10 #[.pointer (some ⟨db, 0, none⟩), .pointer (some ⟨q, 0, none⟩), stepV s (.slice dA dl dc) (.slice pA pl pc)] W (StepO r1 r2 J) := by
  obtain ⟨hA, hB⟩ := h
  unfold Turn at hA hB
  have hbx := boxS_new W s (.slice dA dl dc) (.slice pA pl pc)
  obtain ⟨w1, hw1⟩ : ∃ w1, boxS W s (.slice dA dl dc) (.slice pA pl pc) = w1 := ⟨_, rfl⟩
  have hw1' : W.alloc (.cells #[.int .i64 s.kind, .string s.name, .int .i64 s.at', .slice dA dl dc, .slice pA pl pc] 37) = w1 := hw1
  rw [hw1] at hA hB hbx
  obtain ⟨b, hb⟩ : ∃ b, W.heap.size = b := ⟨_, rfl⟩
  rw [hb] at hA hB hbx
  have hc0 : w1.cell? ⟨b, 0, none⟩ = some (.int .i64 0) := by simp [World.cell?, hbx, h0]
  obtain ⟨c1, c2, c3, c4, cb⟩ := Boxed.of hbx
  have HW1 := Lib.hid hw1'
  have CA := Lib.hid hA
  have CB := Lib.hid hB
  clear hA hB hbx hw1 hw1' h0
  unfold stepV
  go_enter Try.func10, Try.ntmps10
  go_upto_region 1 with fail
  rw [HW1.out]
  go_wp2_with fail
  go_region_held3 (fun w' => w'.cell? ⟨b, 1, none⟩ = some (.string s.name) ∧ w'.cell? ⟨b, 2, none⟩ = some (.int .i64 s.at') ∧ w'.cell? ⟨b, 3, none⟩ = some (.slice dA dl dc)) (go_keep) (first
    | (go_at_call 21; ((with_reducible refine CA.out.mono ?_)); rintro e W2 ⟨rfl, ⟨m1, m2, m3, m4, mb⟩, HC2⟩)
    | (go_at_call 30; ((with_reducible refine CB.out.mono ?_)); rintro e W2 ⟨rfl, ⟨m1, m2, m3, m4, mb⟩, HC2⟩)
    | (go_at_call 21; ((with_reducible refine HC2.out.mono ?_)); rintro e W3 ⟨rfl, ⟨n1, n2, n3, n4, nb⟩, HJ⟩)
    | (go_at_call 30; ((with_reducible refine HC2.out.mono ?_)); rintro e W3 ⟨rfl, ⟨n1, n2, n3, n4, nb⟩, HJ⟩))
  all_goals
    go_wp2_with fail
    go_ret
    exact ⟨_, rfl, fun h => by first | (subst h; simp) | simp [h], HJ.out⟩

set_option maxRecDepth 100000 in
set_option maxHeartbeats 2000000 in
theorem step_cut (db q : Nat) (s : Step) (h0 : s.kind = 1) (dA pA : Option Addr) (dl dc pl pc : Nat) (W : World) (r1 r2 : Int) (J : World → Prop)
    (h : Duo W.heap.size s (.slice dA dl dc) (.slice pA pl pc) r1 r2 24 31 #[.pointer (some ⟨db, 0, none⟩), .string s.name, .int .i64 s.at'] #[.pointer (some ⟨q, 0, none⟩), .string s.name, .int .i64 s.at'] J (boxS W s (.slice dA dl dc) (.slice pA pl pc))) :
    Calls Try.prog 10 #[.pointer (some ⟨db, 0, none⟩), .pointer (some ⟨q, 0, none⟩), stepV s (.slice dA dl dc) (.slice pA pl pc)] W (StepO r1 r2 J) := by
  obtain ⟨hA, hB⟩ := h
  unfold Turn at hA hB
  have hbx := boxS_new W s (.slice dA dl dc) (.slice pA pl pc)
  obtain ⟨w1, hw1⟩ : ∃ w1, boxS W s (.slice dA dl dc) (.slice pA pl pc) = w1 := ⟨_, rfl⟩
  have hw1' : W.alloc (.cells #[.int .i64 s.kind, .string s.name, .int .i64 s.at', .slice dA dl dc, .slice pA pl pc] 37) = w1 := hw1
  rw [hw1] at hA hB hbx
  obtain ⟨b, hb⟩ : ∃ b, W.heap.size = b := ⟨_, rfl⟩
  rw [hb] at hA hB hbx
  have hc0 : w1.cell? ⟨b, 0, none⟩ = some (.int .i64 1) := by simp [World.cell?, hbx, h0]
  obtain ⟨c1, c2, c3, c4, cb⟩ := Boxed.of hbx
  have HW1 := Lib.hid hw1'
  have CA := Lib.hid hA
  have CB := Lib.hid hB
  clear hA hB hbx hw1 hw1' h0
  unfold stepV
  go_enter Try.func10, Try.ntmps10
  go_upto_region 1 with fail
  rw [HW1.out]
  go_wp2_with fail
  go_region_held3 (fun w' => w'.cell? ⟨b, 1, none⟩ = some (.string s.name) ∧ w'.cell? ⟨b, 2, none⟩ = some (.int .i64 s.at')) (go_keep) (first
    | (go_at_call 24; ((with_reducible refine CA.out.mono ?_)); rintro e W2 ⟨rfl, ⟨m1, m2, m3, m4, mb⟩, HC2⟩)
    | (go_at_call 31; ((with_reducible refine CB.out.mono ?_)); rintro e W2 ⟨rfl, ⟨m1, m2, m3, m4, mb⟩, HC2⟩)
    | (go_at_call 24; ((with_reducible refine HC2.out.mono ?_)); rintro e W3 ⟨rfl, ⟨n1, n2, n3, n4, nb⟩, HJ⟩)
    | (go_at_call 31; ((with_reducible refine HC2.out.mono ?_)); rintro e W3 ⟨rfl, ⟨n1, n2, n3, n4, nb⟩, HJ⟩))
  all_goals
    go_wp2_with fail
    go_ret
    exact ⟨_, rfl, fun h => by first | (subst h; simp) | simp [h], HJ.out⟩

set_option maxRecDepth 100000 in
set_option maxHeartbeats 2000000 in
theorem step_remove (db q : Nat) (s : Step) (h0 : s.kind = 2) (dA pA : Option Addr) (dl dc pl pc : Nat) (W : World) (r1 r2 : Int) (J : World → Prop)
    (h : Duo W.heap.size s (.slice dA dl dc) (.slice pA pl pc) r1 r2 25 32 #[.pointer (some ⟨db, 0, none⟩), .string s.name] #[.pointer (some ⟨q, 0, none⟩), .string s.name] J (boxS W s (.slice dA dl dc) (.slice pA pl pc))) :
    Calls Try.prog 10 #[.pointer (some ⟨db, 0, none⟩), .pointer (some ⟨q, 0, none⟩), stepV s (.slice dA dl dc) (.slice pA pl pc)] W (StepO r1 r2 J) := by
  obtain ⟨hA, hB⟩ := h
  unfold Turn at hA hB
  have hbx := boxS_new W s (.slice dA dl dc) (.slice pA pl pc)
  obtain ⟨w1, hw1⟩ : ∃ w1, boxS W s (.slice dA dl dc) (.slice pA pl pc) = w1 := ⟨_, rfl⟩
  have hw1' : W.alloc (.cells #[.int .i64 s.kind, .string s.name, .int .i64 s.at', .slice dA dl dc, .slice pA pl pc] 37) = w1 := hw1
  rw [hw1] at hA hB hbx
  obtain ⟨b, hb⟩ : ∃ b, W.heap.size = b := ⟨_, rfl⟩
  rw [hb] at hA hB hbx
  have hc0 : w1.cell? ⟨b, 0, none⟩ = some (.int .i64 2) := by simp [World.cell?, hbx, h0]
  obtain ⟨c1, c2, c3, c4, cb⟩ := Boxed.of hbx
  have HW1 := Lib.hid hw1'
  have CA := Lib.hid hA
  have CB := Lib.hid hB
  clear hA hB hbx hw1 hw1' h0
  unfold stepV
  go_enter Try.func10, Try.ntmps10
  go_upto_region 1 with fail
  rw [HW1.out]
  go_wp2_with fail
  go_region_held3 (fun w' => w'.cell? ⟨b, 1, none⟩ = some (.string s.name)) (go_keep) (first
    | (go_at_call 25; ((with_reducible refine CA.out.mono ?_)); rintro e W2 ⟨rfl, ⟨m1, m2, m3, m4, mb⟩, HC2⟩)
    | (go_at_call 32; ((with_reducible refine CB.out.mono ?_)); rintro e W2 ⟨rfl, ⟨m1, m2, m3, m4, mb⟩, HC2⟩)
    | (go_at_call 25; ((with_reducible refine HC2.out.mono ?_)); rintro e W3 ⟨rfl, ⟨n1, n2, n3, n4, nb⟩, HJ⟩)
    | (go_at_call 32; ((with_reducible refine HC2.out.mono ?_)); rintro e W3 ⟨rfl, ⟨n1, n2, n3, n4, nb⟩, HJ⟩))
  all_goals
    go_wp2_with fail
    go_ret
    exact ⟨_, rfl, fun h => by first | (subst h; simp) | simp [h], HJ.out⟩

set_option maxRecDepth 100000 in
set_option maxHeartbeats 2000000 in
theorem step_sync (db q : Nat) (s : Step) (h0 : s.kind = 3) (dA pA : Option Addr) (dl dc pl pc : Nat) (W : World) (r1 r2 : Int) (J : World → Prop)
    (h : Duo W.heap.size s (.slice dA dl dc) (.slice pA pl pc) r1 r2 13 33 #[.pointer (some ⟨db, 0, none⟩), .string s.name] #[.pointer (some ⟨q, 0, none⟩), .string s.name] J (boxS W s (.slice dA dl dc) (.slice pA pl pc))) :
    Calls Try.prog 10 #[.pointer (some ⟨db, 0, none⟩), .pointer (some ⟨q, 0, none⟩), stepV s (.slice dA dl dc) (.slice pA pl pc)] W (StepO r1 r2 J) := by
  obtain ⟨hA, hB⟩ := h
  unfold Turn at hA hB
  have hbx := boxS_new W s (.slice dA dl dc) (.slice pA pl pc)
  obtain ⟨w1, hw1⟩ : ∃ w1, boxS W s (.slice dA dl dc) (.slice pA pl pc) = w1 := ⟨_, rfl⟩
  have hw1' : W.alloc (.cells #[.int .i64 s.kind, .string s.name, .int .i64 s.at', .slice dA dl dc, .slice pA pl pc] 37) = w1 := hw1
  rw [hw1] at hA hB hbx
  obtain ⟨b, hb⟩ : ∃ b, W.heap.size = b := ⟨_, rfl⟩
  rw [hb] at hA hB hbx
  have hc0 : w1.cell? ⟨b, 0, none⟩ = some (.int .i64 3) := by simp [World.cell?, hbx, h0]
  obtain ⟨c1, c2, c3, c4, cb⟩ := Boxed.of hbx
  have HW1 := Lib.hid hw1'
  have CA := Lib.hid hA
  have CB := Lib.hid hB
  clear hA hB hbx hw1 hw1' h0
  unfold stepV
  go_enter Try.func10, Try.ntmps10
  go_upto_region 1 with fail
  rw [HW1.out]
  go_wp2_with fail
  go_region_held3 (fun w' => w'.cell? ⟨b, 1, none⟩ = some (.string s.name)) (go_keep) (first
    | (go_at_call 13; ((with_reducible refine CA.out.mono ?_)); rintro e W2 ⟨rfl, ⟨m1, m2, m3, m4, mb⟩, HC2⟩)
    | (go_at_call 33; ((with_reducible refine CB.out.mono ?_)); rintro e W2 ⟨rfl, ⟨m1, m2, m3, m4, mb⟩, HC2⟩)
    | (go_at_call 13; ((with_reducible refine HC2.out.mono ?_)); rintro e W3 ⟨rfl, ⟨n1, n2, n3, n4, nb⟩, HJ⟩)
    | (go_at_call 33; ((with_reducible refine HC2.out.mono ?_)); rintro e W3 ⟨rfl, ⟨n1, n2, n3, n4, nb⟩, HJ⟩))
  all_goals
    go_wp2_with fail
    go_ret
    exact ⟨_, rfl, fun h => by first | (subst h; simp) | simp [h], HJ.out⟩

set_option maxRecDepth 100000 in
set_option maxHeartbeats 2000000 in
theorem step_crash (db q : Nat) (s : Step) (h0 : s.kind = 4) (dA pA : Option Addr) (dl dc pl pc : Nat) (W : World) (J : World → Prop)
    (h : Calls Try.prog 15 #[.pointer (some ⟨db, 0, none⟩), .slice pA pl pc] (boxS W s (.slice dA dl dc) (.slice pA pl pc)) fun e W1 => e = .returned (.tuple #[]) ∧ Boxed W1 W.heap.size s (.slice dA dl dc) (.slice pA pl pc) ∧
      Hid (Calls Try.prog 34 #[.pointer (some ⟨q, 0, none⟩), .slice pA pl pc] W1 fun e W2 => e = .returned (.tuple #[]) ∧ J W2)) :
    Calls Try.prog 10 #[.pointer (some ⟨db, 0, none⟩), .pointer (some ⟨q, 0, none⟩), stepV s (.slice dA dl dc) (.slice pA pl pc)] W (StepO 0 0 J) := by
  have hbx := boxS_new W s (.slice dA dl dc) (.slice pA pl pc)
  obtain ⟨w1, hw1⟩ : ∃ w1, boxS W s (.slice dA dl dc) (.slice pA pl pc) = w1 := ⟨_, rfl⟩
  have hw1' : W.alloc (.cells #[.int .i64 s.kind, .string s.name, .int .i64 s.at', .slice dA dl dc, .slice pA pl pc] 37) = w1 := hw1
  rw [hw1] at h hbx
  obtain ⟨b, hb⟩ : ∃ b, W.heap.size = b := ⟨_, rfl⟩
  rw [hb] at h hbx
  have hc0 : w1.cell? ⟨b, 0, none⟩ = some (.int .i64 4) := by simp [World.cell?, hbx, h0]
  obtain ⟨c1, c2, c3, c4, cb⟩ := Boxed.of hbx
  have HW1 := Lib.hid hw1'
  have CA := Lib.hid h
  clear h hbx hw1 hw1' h0
  unfold stepV
  go_enter Try.func10, Try.ntmps10
  go_upto_region 1 with fail
  rw [HW1.out]
  go_wp2_with fail
  refine CA.out.mono ?_
  clear CA
  rintro e W2 ⟨rfl, ⟨m1, m2, m3, m4, mb⟩, HC2⟩
  go_wp2_with fail
  refine HC2.out.mono ?_
  rintro e W3 ⟨rfl, hJ⟩
  have HJ := Lib.hid hJ
  clear hJ HC2
  go_wp2_with fail
  go_ret
  exact ⟨_, rfl, fun _ => rfl, HJ.out⟩

set_option maxRecDepth 100000 in
set_option maxHeartbeats 2000000 in
theorem step_fail (db q : Nat) (s : Step) (h0 : s.kind = 5) (dA pA : Option Addr) (dl dc pl pc : Nat) (W : World) (J : World → Prop)
    (h : Calls Try.prog 12 #[.pointer (some ⟨db, 0, none⟩), .bool (decide (s.at' ≠ 0))] (boxS W s (.slice dA dl dc) (.slice pA pl pc)) fun e W1 => e = .returned (.tuple #[]) ∧ Boxed W1 W.heap.size s (.slice dA dl dc) (.slice pA pl pc) ∧
      (∃ room fails nv sv cv, RD W1 q room fails nv sv cv) ∧ Hid (J (W1.setCell ⟨q, 1, none⟩ (.bool (decide (s.at' ≠ 0)))))) :
    Calls Try.prog 10 #[.pointer (some ⟨db, 0, none⟩), .pointer (some ⟨q, 0, none⟩), stepV s (.slice dA dl dc) (.slice pA pl pc)] W (StepO 0 0 J) := by
  have hbx := boxS_new W s (.slice dA dl dc) (.slice pA pl pc)
  obtain ⟨w1, hw1⟩ : ∃ w1, boxS W s (.slice dA dl dc) (.slice pA pl pc) = w1 := ⟨_, rfl⟩
  have hw1' : W.alloc (.cells #[.int .i64 s.kind, .string s.name, .int .i64 s.at', .slice dA dl dc, .slice pA pl pc] 37) = w1 := hw1
  rw [hw1] at h hbx
  obtain ⟨b, hb⟩ : ∃ b, W.heap.size = b := ⟨_, rfl⟩
  rw [hb] at h hbx
  have hc0 : w1.cell? ⟨b, 0, none⟩ = some (.int .i64 5) := by simp [World.cell?, hbx, h0]
  obtain ⟨c1, c2, c3, c4, cb⟩ := Boxed.of hbx
  have HW1 := Lib.hid hw1'
  by_cases hz : s.at' = 0
  · have hd : decide (s.at' ≠ 0) = false := by simp [hz]
    rw [hd] at h
    rw [hz] at c2
    have HZ := Lib.hid hz
    have CA := Lib.hid h
    clear h hbx hw1 hw1' h0 hd hz
    unfold stepV
    go_enter Try.func10, Try.ntmps10
    go_upto_region 1 with fail
    rw [HW1.out]
    go_wp2_with fail
    refine CA.out.mono ?_
    clear CA
    rintro e W2 ⟨rfl, ⟨m1, m2, m3, m4, mb⟩, ⟨room, fails, nv, sv, cv, hRD⟩, HJ⟩
    rw [HZ.out] at m2
    obtain ⟨⟨_, r1, _⟩, rf⟩ := hRD.cells
    have rf1 := rf 1
    clear hRD rf
    go_wp2_with fail
    go_ret
    exact ⟨_, rfl, fun _ => rfl, HJ.out⟩
  · have hd : decide (s.at' ≠ 0) = true := by simp [hz]
    rw [hd] at h
    have hne : (s.at' != 0) = true := by simp [hz]
    have CA := Lib.hid h
    clear h hbx hw1 hw1' h0 hd hz
    unfold stepV
    go_enter Try.func10, Try.ntmps10
    go_upto_region 1 with fail
    rw [HW1.out]
    go_wp2_with fail
    refine CA.out.mono ?_
    clear CA
    rintro e W2 ⟨rfl, ⟨m1, m2, m3, m4, mb⟩, ⟨room, fails, nv, sv, cv, hRD⟩, HJ⟩
    obtain ⟨⟨_, r1, _⟩, rf⟩ := hRD.cells
    have rf1 := rf 1
    clear hRD rf
    go_wp2_with fail
    go_ret
    exact ⟨_, rfl, fun _ => rfl, HJ.out⟩

set_option maxRecDepth 100000 in
set_option maxHeartbeats 2000000 in
theorem step_limit (db q : Nat) (s : Step) (h0 : s.kind = 6) (dA pA : Option Addr) (dl dc pl pc : Nat) (W : World) (J : World → Prop) (hr : 0 ≤ s.at' ∧ s.at' ≤ 1073741824)
    (h : Calls Try.prog 26 #[.pointer (some ⟨db, 0, none⟩), .int .i64 s.at'] (boxS W s (.slice dA dl dc) (.slice pA pl pc)) fun e W1 => e = .returned (.int .i64 0) ∧ Boxed W1 W.heap.size s (.slice dA dl dc) (.slice pA pl pc) ∧
      (∃ room fails nv sv cv, RD W1 q room fails nv sv cv) ∧ Hid (J (W1.setCell ⟨q, 0, none⟩ (.int .i64 s.at')))) :
    Calls Try.prog 10 #[.pointer (some ⟨db, 0, none⟩), .pointer (some ⟨q, 0, none⟩), stepV s (.slice dA dl dc) (.slice pA pl pc)] W (StepO 0 0 J) := by
  have hbx := boxS_new W s (.slice dA dl dc) (.slice pA pl pc)
  obtain ⟨w1, hw1⟩ : ∃ w1, boxS W s (.slice dA dl dc) (.slice pA pl pc) = w1 := ⟨_, rfl⟩
  have hw1' : W.alloc (.cells #[.int .i64 s.kind, .string s.name, .int .i64 s.at', .slice dA dl dc, .slice pA pl pc] 37) = w1 := hw1
  rw [hw1] at h hbx
  obtain ⟨b, hb⟩ : ∃ b, W.heap.size = b := ⟨_, rfl⟩
  rw [hb] at h hbx
  have hc0 : w1.cell? ⟨b, 0, none⟩ = some (.int .i64 6) := by simp [World.cell?, hbx, h0]
  obtain ⟨c1, c2, c3, c4, cb⟩ := Boxed.of hbx
  have HW1 := Lib.hid hw1'
  obtain ⟨hr1, hr2⟩ := hr
  have CA := Lib.hid h
  clear h hbx hw1 hw1' h0
  unfold stepV
  go_enter Try.func10, Try.ntmps10
  go_upto_region 1 with fail
  rw [HW1.out]
  go_wp2_with fail
  refine CA.out.mono ?_
  clear CA
  rintro e W2 ⟨rfl, ⟨m1, m2, m3, m4, mb⟩, ⟨room, fails, nv, sv, cv, hRD⟩, HJ⟩
  obtain ⟨⟨r0, _⟩, rf⟩ := hRD.cells
  have rf0 := rf 0
  clear hRD rf
  go_wp2_with fail
  go_ret
  exact ⟨_, rfl, fun _ => rfl, HJ.out⟩

set_option maxRecDepth 100000 in
set_option maxHeartbeats 2000000 in
theorem step_limit_no (db q : Nat) (s : Step) (h0 : s.kind = 6) (dA pA : Option Addr) (dl dc pl pc : Nat) (W : World) (J : World → Prop) (hr : ¬ (0 ≤ s.at' ∧ s.at' ≤ 1073741824))
    (h : Calls Try.prog 26 #[.pointer (some ⟨db, 0, none⟩), .int .i64 s.at'] (boxS W s (.slice dA dl dc) (.slice pA pl pc)) fun e W1 => e = .returned (.int .i64 1) ∧ Boxed W1 W.heap.size s (.slice dA dl dc) (.slice pA pl pc) ∧
      Hid (J W1)) :
    Calls Try.prog 10 #[.pointer (some ⟨db, 0, none⟩), .pointer (some ⟨q, 0, none⟩), stepV s (.slice dA dl dc) (.slice pA pl pc)] W (StepO 0 0 J) := by
  have hbx := boxS_new W s (.slice dA dl dc) (.slice pA pl pc)
  obtain ⟨w1, hw1⟩ : ∃ w1, boxS W s (.slice dA dl dc) (.slice pA pl pc) = w1 := ⟨_, rfl⟩
  have hw1' : W.alloc (.cells #[.int .i64 s.kind, .string s.name, .int .i64 s.at', .slice dA dl dc, .slice pA pl pc] 37) = w1 := hw1
  rw [hw1] at h hbx
  obtain ⟨b, hb⟩ : ∃ b, W.heap.size = b := ⟨_, rfl⟩
  rw [hb] at h hbx
  have hc0 : w1.cell? ⟨b, 0, none⟩ = some (.int .i64 6) := by simp [World.cell?, hbx, h0]
  obtain ⟨c1, c2, c3, c4, cb⟩ := Boxed.of hbx
  have HW1 := Lib.hid hw1'
  have CA := Lib.hid h
  rcases (show s.at' < 0 ∨ (0 ≤ s.at' ∧ 1073741824 < s.at') by omega) with hr1 | ⟨hr1, hr2⟩
  all_goals
    clear h hbx hw1 hw1' h0 hr
    unfold stepV
    go_enter Try.func10, Try.ntmps10
    go_upto_region 1 with fail
    rw [HW1.out]
    go_wp2_with fail
    refine CA.out.mono ?_
    clear CA
    rintro e W2 ⟨rfl, ⟨m1, m2, m3, m4, mb⟩, HJ⟩
    go_wp2_with fail
    go_ret
    exact ⟨_, rfl, fun _ => rfl, HJ.out⟩

set_option maxRecDepth 100000 in
set_option maxHeartbeats 2000000 in
theorem step_other (db q : Nat) (s : Step) (h0 : s.kind < 0 ∨ 6 < s.kind) (dA pA : Option Addr) (dl dc pl pc : Nat) (W : World) (J : World → Prop) (h : J (boxS W s (.slice dA dl dc) (.slice pA pl pc))) :
    Calls Try.prog 10 #[.pointer (some ⟨db, 0, none⟩), .pointer (some ⟨q, 0, none⟩), stepV s (.slice dA dl dc) (.slice pA pl pc)] W (StepO 0 0 J) := by
  have hbx := boxS_new W s (.slice dA dl dc) (.slice pA pl pc)
  obtain ⟨w1, hw1⟩ : ∃ w1, boxS W s (.slice dA dl dc) (.slice pA pl pc) = w1 := ⟨_, rfl⟩
  have hw1' : W.alloc (.cells #[.int .i64 s.kind, .string s.name, .int .i64 s.at', .slice dA dl dc, .slice pA pl pc] 37) = w1 := hw1
  rw [hw1] at h hbx
  obtain ⟨b, hb⟩ : ∃ b, W.heap.size = b := ⟨_, rfl⟩
  rw [hb] at hbx
  have hc0 : w1.cell? ⟨b, 0, none⟩ = some (.int .i64 s.kind) := by simp [World.cell?, hbx]
  obtain ⟨c1, c2, c3, c4, cb⟩ := Boxed.of hbx
  have HW1 := Lib.hid hw1'
  have HJ := Lib.hid h
  have e0 : (s.kind == 0) = false := by rw [beq_eq_false_iff_ne]; omega
  have e1 : (s.kind == 1) = false := by rw [beq_eq_false_iff_ne]; omega
  have e2 : (s.kind == 2) = false := by rw [beq_eq_false_iff_ne]; omega
  have e3 : (s.kind == 3) = false := by rw [beq_eq_false_iff_ne]; omega
  have e4 : (s.kind == 4) = false := by rw [beq_eq_false_iff_ne]; omega
  have e5 : (s.kind == 5) = false := by rw [beq_eq_false_iff_ne]; omega
  have e6 : (s.kind == 6) = false := by rw [beq_eq_false_iff_ne]; omega
  clear h hbx hw1 hw1' h0
  unfold stepV
  go_enter Try.func10, Try.ntmps10
  go_upto_region 1 with fail
  rw [HW1.out]
  go_wp2_with fail
  go_ret
  exact ⟨_, rfl, fun _ => rfl, HJ.out⟩

end Go.Proofs.Ytnjjjalenhbicaa.Disk
