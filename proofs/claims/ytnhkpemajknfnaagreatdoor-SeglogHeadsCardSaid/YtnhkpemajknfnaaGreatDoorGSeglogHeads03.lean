/-
  Put together out of texts of one chain: what they hold stands ahead of each.
-/
import Derived.Test.YtnhkpemajknfnaaGreatDoorGSeglogHeads02
import Derived.Test.YtnhkpemajknfnaaGreatDoorMapOps
import Derived.Test.YtnhkpemajknfnaaGreatDoorProg
import Derived.Shelf.SlSortCmp.WholeK
import Derived.Shelf.SlicesG.Cmp
import Derived.Shelf.Strconv.Clone
import Derived.Ground.SlsfProg
import Derived.Ground.SlgcProg
import Derived.Ground.NamesProg
/-
  The disk as plain data: what each call does to it.
-/
namespace Go.Proofs.YtnhkpemajknfnaaGreatDoor.Disk
open Go Go.RowKit Go.Proofs.YtnhkpemajknfnaaGreatDoor.Law

/-- A disk: the names that it knows, each one's bytes now and durable, and the changes that aren't durable, by their numbers. -/
structure DS where
  room : Nat
  used : Nat
  made : Nat
  fails : Bool
  names : List ByteArray
  now : ByteArray → Option (List Nat)
  safe : ByteArray → Option (List Nat)
  chs : List (ByteArray × Chg)

def szO : Option (List Nat) → Nat
  | none => 0
  | some b => b.length
theorem szO_getD (o : Option (List Nat)) : (o.getD []).length = szO o := by cases o <;> rfl
def upd (f : ByteArray → Option (List Nat)) (s : ByteArray) (v : Option (List Nat)) : ByteArray → Option (List Nat) := fun x => if x = s then v else f x
theorem upd_same (f : ByteArray → Option (List Nat)) (s : ByteArray) (v : Option (List Nat)) : upd f s v s = v := if_pos rfl
theorem upd_other (f : ByteArray → Option (List Nat)) {s x : ByteArray} (v : Option (List Nat)) (h : x ≠ s) : upd f s v x = f x := if_neg h
def total (names : List ByteArray) (f : ByteArray → Option (List Nat)) : Nat := (names.map fun s => szO (f s)).sum
/-- A file's own changes. -/
def mine (s : ByteArray) (l : List (ByteArray × Chg)) : List Chg := (l.filter fun x => decide (x.1 = s)).map (·.2)
/-- The changes of the others. -/
def others (s : ByteArray) (l : List (ByteArray × Chg)) : List (ByteArray × Chg) := l.filter fun x => !decide (x.1 = s)

theorem total_out (f : ByteArray → Option (List Nat)) (s : ByteArray) (v : Option (List Nat)) : ∀ names : List ByteArray, s ∉ names → total names (upd f s v) = total names f
  | [], _ => rfl
  | a :: l, h => by
    have h1 : a ≠ s := fun e => h (by simp [e])
    have h2 : s ∉ l := fun e => h (List.mem_cons_of_mem _ e)
    have := total_out f s v l h2
    unfold total at this ⊢
    rw [List.map_cons, List.map_cons, List.sum_cons, List.sum_cons, this, upd_other f v h1]
theorem total_in (f : ByteArray → Option (List Nat)) (s : ByteArray) (v : Option (List Nat)) : ∀ names : List ByteArray, names.Nodup → s ∈ names → total names (upd f s v) + szO (f s) = total names f + szO v
  | [], _, h => by simp at h
  | a :: l, hn, h => by
    rw [List.nodup_cons] at hn
    unfold total
    rw [List.map_cons, List.map_cons, List.sum_cons, List.sum_cons]
    by_cases ha : a = s
    · subst ha
      have := total_out f a v l hn.1
      unfold total at this
      rw [this, upd_same]; omega
    · have h2 : s ∈ l := by rcases List.mem_cons.1 h with e | e
                            · exact absurd e.symm ha
                            · exact e
      have := total_in f s v l hn.2 h2
      unfold total at this
      rw [upd_other f v ha]; omega
theorem total_ge (f : ByteArray → Option (List Nat)) (s : ByteArray) : ∀ names : List ByteArray, s ∈ names → szO (f s) ≤ total names f
  | [], h => by simp at h
  | a :: l, h => by
    unfold total
    rw [List.map_cons, List.sum_cons]
    rcases List.mem_cons.1 h with rfl | h
    · omega
    · have := total_ge f s l h
      unfold total at this; omega
theorem total_append (f : ByteArray → Option (List Nat)) (a b : List ByteArray) : total (a ++ b) f = total a f + total b f := by
  unfold total; rw [List.map_append, List.sum_append]
theorem total_perm (f : ByteArray → Option (List Nat)) {a b : List ByteArray} (h : a.Perm b) : total a f = total b f := by
  unfold total; exact (h.map _).sum_nat
theorem total_le (f : ByteArray → Option (List Nat)) (k : Nat) (hf : ∀ s b, f s = some b → b.length ≤ k) : ∀ names : List ByteArray, total names f ≤ names.length * k
  | [] => by simp [total]
  | a :: l => by
    have := total_le f k hf l
    unfold total at this ⊢
    rw [List.map_cons, List.sum_cons, List.length_cons, Nat.add_mul]
    have h1 : szO (f a) ≤ k := by
      cases h : f a with
      | none => exact Nat.zero_le _
      | some b => exact hf a b h
    omega
theorem total_congr (f g : ByteArray → Option (List Nat)) : ∀ names : List ByteArray, (∀ s ∈ names, f s = g s) → total names f = total names g
  | [], _ => rfl
  | a :: l, h => by
    have := total_congr f g l (fun s hs => h s (List.mem_cons_of_mem _ hs))
    unfold total at this ⊢
    rw [List.map_cons, List.map_cons, List.sum_cons, List.sum_cons, this, h a (by simp)]

theorem mine_append (s : ByteArray) (a b : List (ByteArray × Chg)) : mine s (a ++ b) = mine s a ++ mine s b := by simp [mine]
theorem mine_one (s : ByteArray) (c : Chg) : mine s [(s, c)] = [c] := by simp [mine]
theorem mine_one_other {s x : ByteArray} (c : Chg) (h : s ≠ x) : mine x [(s, c)] = [] := by simp [mine, h]
theorem mine_others_same (s : ByteArray) (l : List (ByteArray × Chg)) : mine s (others s l) = [] := by
  have : (others s l).filter (fun x => decide (x.1 = s)) = [] := by
    rw [List.filter_eq_nil_iff]
    intro x hx
    have := (List.mem_filter.1 hx).2
    simpa using this
  unfold mine
  rw [this]; rfl
theorem mine_others (s x : ByteArray) (h : x ≠ s) (l : List (ByteArray × Chg)) : mine x (others s l) = mine x l := by
  unfold mine others
  rw [List.filter_filter]
  congr 1
  apply List.filter_congr
  intro y _
  by_cases hy : y.1 = x
  · simp [hy, h]
  · simp [hy]
theorem mem_mine {s : ByteArray} {c : Chg} {l : List (ByteArray × Chg)} : c ∈ mine s l ↔ (s, c) ∈ l := by
  unfold mine
  simp only [List.mem_map, List.mem_filter, decide_eq_true_eq]
  constructor
  · rintro ⟨⟨a, b⟩, ⟨h1, h2⟩, h3⟩
    simp only at h2 h3
    subst h2 h3
    exact h1
  · intro h
    exact ⟨(s, c), ⟨h, rfl⟩, rfl⟩
theorem mem_others {s : ByteArray} {x : ByteArray × Chg} {l : List (ByteArray × Chg)} : x ∈ others s l ↔ x ∈ l ∧ x.1 ≠ s := by
  unfold others
  rw [List.mem_filter]
  simp
theorem others_length (s : ByteArray) (l : List (ByteArray × Chg)) : (others s l).length ≤ l.length := List.length_filter_le _ _
theorem mine_length (s : ByteArray) (l : List (ByteArray × Chg)) : (mine s l).length ≤ l.length := by
  unfold mine
  rw [List.length_map]
  exact List.length_filter_le _ _

/-- What holds of every disk that the calls have made. -/
structure WF (D : DS) : Prop where
  nodup : D.names.Nodup
  names : ∀ s, s ∈ D.names ↔ D.now s ≠ none ∨ D.safe s ≠ none ∨ ∃ c, (s, c) ∈ D.chs
  right : ∀ s ∈ D.names, rightB s = true
  count : D.names.length ≤ D.made
  nowSz : ∀ s b, D.now s = some b → b.length ≤ 1073741824
  safeSz : ∀ s b, D.safe s = some b → b.length ≤ 1073741824
  chSz : ∀ x ∈ D.chs, x.2.pos + x.2.s.size ≤ 1073741824
  asc : D.chs.Pairwise fun a b => a.2.n < b.2.n
  below : ∀ x ∈ D.chs, x.2.n < D.made
  kind : ∀ x ∈ D.chs, x.2.kind ≤ 2
  len : D.chs.length ≤ D.made
  room : D.room ≤ 1073741824
  used : D.used = total D.names D.now

theorem WF.short {D : DS} (h : WF D) {s : ByteArray} (hs : s ∈ D.names) : Short s := by
  have := h.right s hs
  unfold rightB at this
  simp only [Bool.and_eq_true, decide_eq_true_eq] at this
  have := this.1.2
  show s.size ≤ maxLen
  simp only [maxLen]; omega
theorem short_right {s : ByteArray} (h : rightB s = true) : Short s := by
  unfold rightB at h
  simp only [Bool.and_eq_true, decide_eq_true_eq] at h
  have := h.1.2
  show s.size ≤ maxLen
  simp only [maxLen]; omega
theorem WF.gone {D : DS} (h : WF D) {s : ByteArray} (hs : s ∉ D.names) : D.now s = none ∧ D.safe s = none ∧ mine s D.chs = [] := by
  have := mt (h.names s).2 hs
  simp only [not_or, ne_eq, Decidable.not_not, not_exists] at this
  refine ⟨this.1, this.2.1, ?_⟩
  cases hm : mine s D.chs with
  | nil => rfl
  | cons c r => exact absurd (mem_mine.1 (by rw [hm]; exact List.mem_cons_self)) (this.2.2 c)
theorem WF.usedLe {D : DS} (h : WF D) : D.used ≤ D.made * 1073741824 := by
  rw [h.used]
  exact Nat.le_trans (total_le _ _ h.nowSz _) (Nat.mul_le_mul_right _ h.count)
theorem WF.mineLe {D : DS} (h : WF D) (s : ByteArray) : (mine s D.chs).length ≤ D.made := Nat.le_trans (mine_length s D.chs) h.len
theorem WF.nowLe {D : DS} (h : WF D) (s : ByteArray) : szO (D.now s) ≤ 1073741824 := by
  cases hs : D.now s with
  | none => simp [szO]
  | some b => exact h.nowSz s b hs
theorem WF.safeLe {D : DS} (h : WF D) (s : ByteArray) : szO (D.safe s) ≤ 1073741824 := by
  cases hs : D.safe s with
  | none => simp [szO]
  | some b => exact h.safeSz s b hs

def DS.fresh (room : Nat) : DS := ⟨room, 0, 0, false, [], fun _ => none, fun _ => none, []⟩
theorem WF.fresh (room : Nat) (h : room ≤ 1073741824) : WF (DS.fresh room) :=
  ⟨List.nodup_nil, fun s => (by simp [DS.fresh]), fun s h => (by simp [DS.fresh] at h), Nat.le_refl _, fun _ _ h => (by cases h), fun _ _ h => (by cases h), fun x h => (by simp [DS.fresh] at h), List.Pairwise.nil, fun x h => (by simp [DS.fresh] at h), fun x h => (by simp [DS.fresh] at h), Nat.le_refl _, h, rfl⟩

/-- A write's error. -/
def DS.writeN (D : DS) (s : ByteArray) (k : Int) (n : Nat) : Nat :=
  if refN D.fails s k ≠ 0 then refN D.fails s k
  else if (szO (D.now s) : Int) < k then 8
  else if szO (D.now s) < k.toNat + n ∧ D.room + szO (D.now s) < D.used + (k.toNat + n) then 6
  else 0
/-- The disk behind a write. -/
def DS.wrote (D : DS) (s : ByteArray) (k : Nat) (d : ByteArray) : DS :=
  { D with used := D.used + (k + d.size - szO (D.now s)), made := D.made + 1, names := if s ∈ D.names then D.names else D.names ++ [s], now := upd D.now s (some (overL ((D.now s).getD []) k (bytesS d))), chs := D.chs ++ [(s, ⟨D.made, 0, k, d⟩)] }
def DS.write (D : DS) (s : ByteArray) (k : Int) (d : ByteArray) : DS := if D.writeN s k d.size = 0 then D.wrote s k.toNat d else D

def DS.cutN (D : DS) (s : ByteArray) (k : Int) : Nat :=
  if refN D.fails s k ≠ 0 then refN D.fails s k else if D.now s = none then 7 else if (szO (D.now s) : Int) < k then 8 else 0
def DS.cutD (D : DS) (s : ByteArray) (k : Nat) : DS :=
  { D with used := D.used - (szO (D.now s) - k), made := D.made + 1, now := upd D.now s (some (((D.now s).getD []).take k)), chs := D.chs ++ [(s, ⟨D.made, 1, k, ⟨#[]⟩⟩)] }
def DS.cut (D : DS) (s : ByteArray) (k : Int) : DS := if D.cutN s k = 0 then D.cutD s k.toNat else D

def DS.removeN (D : DS) (s : ByteArray) : Nat := if refN D.fails s 0 ≠ 0 then refN D.fails s 0 else if D.now s = none then 7 else 0
def DS.removeD (D : DS) (s : ByteArray) : DS :=
  { D with used := D.used - szO (D.now s), made := D.made + 1, now := upd D.now s none, chs := D.chs ++ [(s, ⟨D.made, 2, 0, ⟨#[]⟩⟩)] }
def DS.remove (D : DS) (s : ByteArray) : DS := if D.removeN s = 0 then D.removeD s else D

def DS.syncN (D : DS) (s : ByteArray) : Nat := if refN D.fails s 0 ≠ 0 then refN D.fails s 0 else if s ∈ D.names then 0 else 7
def DS.syncD (D : DS) (s : ByteArray) : DS :=
  { D with names := if D.now s = none then D.names.erase s else D.names, safe := upd D.safe s (D.now s), chs := others s D.chs }
def DS.sync (D : DS) (s : ByteArray) : DS := if D.syncN s = 0 then D.syncD s else D

theorem refN_zero {fails : Bool} {s : ByteArray} {k : Int} (h : refN fails s k = 0) : fails = false ∧ rightB s = true ∧ 0 ≤ k := by
  unfold refN at h
  cases fails with
  | true => simp at h
  | false =>
    simp only [Bool.false_eq_true, if_false] at h
    by_cases h2 : rightB s = false ∨ k < 0
    · rw [if_pos h2] at h; cases h
    · simp only [not_or, Bool.not_eq_false] at h2
      exact ⟨rfl, h2.1, by omega⟩
theorem writeN_zero {D : DS} {s : ByteArray} {k : Int} {n : Nat} (h : D.writeN s k n = 0) : refN D.fails s k = 0 ∧ k.toNat ≤ szO (D.now s) ∧ (szO (D.now s) < k.toNat + n → D.used + (k.toNat + n) ≤ D.room + szO (D.now s)) := by
  unfold DS.writeN at h
  by_cases h1 : refN D.fails s k = 0
  · rw [if_neg (by simpa using h1)] at h
    by_cases h2 : (szO (D.now s) : Int) < k
    · rw [if_pos h2] at h; cases h
    · rw [if_neg h2] at h
      by_cases h3 : szO (D.now s) < k.toNat + n ∧ D.room + szO (D.now s) < D.used + (k.toNat + n)
      · rw [if_pos h3] at h; cases h
      · exact ⟨h1, by omega, fun h4 => by omega⟩
  · rw [if_pos h1] at h; exact absurd h h1
theorem overL_length (bs : List Nat) (k : Nat) (hk : k ≤ bs.length) (d : List Nat) : (overL bs k d).length = max bs.length (k + d.length) := by
  unfold overL
  simp only [List.length_append, List.length_take, List.length_drop]
  omega

theorem WF.wrote {D : DS} (h : WF D) {s : ByteArray} {k : Int} {d : ByteArray} (h0 : D.writeN s k d.size = 0) : WF (D.wrote s k.toNat d) := by
  obtain ⟨h1, h2, h3⟩ := writeN_zero h0
  obtain ⟨_, hr, _⟩ := refN_zero h1
  have hlen : (overL ((D.now s).getD []) k.toNat (bytesS d)).length = max (szO (D.now s)) (k.toNat + d.size) := by
    rw [overL_length _ _ (by rw [szO_getD]; exact h2), szO_getD, bytesS_length]
  have hsz : k.toNat + d.size ≤ 1073741824 ∧ max (szO (D.now s)) (k.toNat + d.size) ≤ 1073741824 := by
    have h4 := h.nowLe s
    have h5 : szO (D.now s) ≤ D.used := by
      rw [h.used]
      by_cases hs : s ∈ D.names
      · exact total_ge _ _ _ hs
      · rw [(h.gone hs).1]; exact Nat.zero_le _
    have := h.room
    by_cases h6 : szO (D.now s) < k.toNat + d.size
    · have := h3 h6; omega
    · omega
  constructor
  · show (if s ∈ D.names then D.names else D.names ++ [s]).Nodup
    by_cases hs : s ∈ D.names
    · rw [if_pos hs]; exact h.nodup
    · rw [if_neg hs]
      exact List.nodup_append.2 ⟨h.nodup, by simp, fun a ha b hb => by simp at hb; subst hb; exact fun e => hs (e ▸ ha)⟩
  · intro x
    show x ∈ (if s ∈ D.names then D.names else D.names ++ [s]) ↔ upd D.now s _ x ≠ none ∨ D.safe x ≠ none ∨ ∃ c, (x, c) ∈ D.chs ++ [(s, _)]
    by_cases hx : x = s
    · subst hx
      rw [upd_same]
      simp only [ne_eq, reduceCtorEq, not_false_eq_true, true_or, iff_true]
      by_cases hs : x ∈ D.names
      · rw [if_pos hs]; exact hs
      · rw [if_neg hs]; simp
    · rw [upd_other _ _ hx]
      have e1 : (∃ c, (x, c) ∈ D.chs ++ [(s, (⟨D.made, 0, k.toNat, d⟩ : Chg))]) ↔ ∃ c, (x, c) ∈ D.chs := by
        constructor
        · rintro ⟨c, hc⟩
          rcases List.mem_append.1 hc with hc | hc
          · exact ⟨c, hc⟩
          · simp only [List.mem_singleton, Prod.mk.injEq] at hc
            exact absurd hc.1 hx
        · rintro ⟨c, hc⟩
          exact ⟨c, List.mem_append_left _ hc⟩
      rw [e1, ← h.names x]
      by_cases hs : s ∈ D.names
      · rw [if_pos hs]
      · rw [if_neg hs]; simp [hx]
  · intro x hx
    have hx' : x ∈ (if s ∈ D.names then D.names else D.names ++ [s]) := hx
    by_cases hs : s ∈ D.names
    · rw [if_pos hs] at hx'; exact h.right x hx'
    · rw [if_neg hs] at hx'
      rcases List.mem_append.1 hx' with hx' | hx'
      · exact h.right x hx'
      · simp only [List.mem_singleton] at hx'
        subst hx'; exact hr
  · show (if s ∈ D.names then D.names else D.names ++ [s]).length ≤ D.made + 1
    have := h.count
    by_cases hs : s ∈ D.names
    · rw [if_pos hs]; omega
    · rw [if_neg hs]; simp; omega
  · intro x b hb
    have hb' : upd D.now s _ x = some b := hb
    by_cases hx : x = s
    · subst hx
      rw [upd_same] at hb'
      obtain rfl := Option.some.inj hb'
      rw [hlen]; exact hsz.2
    · rw [upd_other _ _ hx] at hb'; exact h.nowSz x b hb'
  · exact h.safeSz
  · intro x hx
    rcases List.mem_append.1 (show x ∈ D.chs ++ [_] from hx) with hx | hx
    · exact h.chSz x hx
    · simp only [List.mem_singleton] at hx
      subst hx; exact hsz.1
  · refine List.pairwise_append.2 ⟨h.asc, by simp, fun a ha b hb => ?_⟩
    simp only [List.mem_singleton] at hb
    subst hb; exact h.below a ha
  · intro x hx
    show x.2.n < D.made + 1
    rcases List.mem_append.1 (show x ∈ D.chs ++ [_] from hx) with hx | hx
    · have := h.below x hx; omega
    · simp only [List.mem_singleton] at hx
      subst hx; exact Nat.lt_succ_self _
  · intro x hx
    rcases List.mem_append.1 (show x ∈ D.chs ++ [_] from hx) with hx | hx
    · exact h.kind x hx
    · simp only [List.mem_singleton] at hx
      subst hx; exact Nat.zero_le _
  · show (D.chs ++ [_]).length ≤ D.made + 1
    have := h.len
    simp; exact this
  · exact h.room
  · show D.used + (k.toNat + d.size - szO (D.now s)) = total (if s ∈ D.names then D.names else D.names ++ [s]) (upd D.now s _)
    have hu := h.used
    by_cases hs : s ∈ D.names
    · rw [if_pos hs]
      have := total_in D.now s (some (overL ((D.now s).getD []) k.toNat (bytesS d))) D.names h.nodup hs
      have e : szO (some (overL ((D.now s).getD []) k.toNat (bytesS d))) = max (szO (D.now s)) (k.toNat + d.size) := hlen
      rw [e] at this
      omega
    · rw [if_neg hs, total_append, total_out _ _ _ _ hs]
      have e : total [s] (upd D.now s (some (overL ((D.now s).getD []) k.toNat (bytesS d)))) = max (szO (D.now s)) (k.toNat + d.size) := by
        unfold total
        rw [List.map_singleton, List.sum_singleton, upd_same]
        exact hlen
      rw [e, (h.gone hs).1] at *
      simp only [szO] at *
      omega

theorem WF.write {D : DS} (h : WF D) (s : ByteArray) (k : Int) (d : ByteArray) : WF (D.write s k d) := by
  unfold DS.write
  by_cases h0 : D.writeN s k d.size = 0
  · rw [if_pos h0]; exact h.wrote h0
  · rw [if_neg h0]; exact h

theorem syncN_zero {D : DS} {s : ByteArray} (h : D.syncN s = 0) : refN D.fails s 0 = 0 ∧ s ∈ D.names := by
  unfold DS.syncN at h
  by_cases h1 : refN D.fails s 0 = 0
  · rw [if_neg (by simpa using h1)] at h
    by_cases h2 : s ∈ D.names
    · exact ⟨h1, h2⟩
    · rw [if_neg h2] at h; cases h
  · rw [if_pos h1] at h; exact absurd h h1

theorem WF.syncD {D : DS} (h : WF D) (s : ByteArray) (hs : s ∈ D.names) : WF (D.syncD s) := by
  have hn : ∀ x, x ∈ (if D.now s = none then D.names.erase s else D.names) ↔ x ∈ D.names ∧ (x = s → D.now s ≠ none) := fun x => by
    by_cases h0 : D.now s = none
    · rw [if_pos h0, h.nodup.mem_erase_iff]
      constructor
      · rintro ⟨h1, h2⟩; exact ⟨h2, fun e => absurd e h1⟩
      · rintro ⟨h1, h2⟩; exact ⟨fun e => h2 e h0, h1⟩
    · rw [if_neg h0]
      exact ⟨fun h1 => ⟨h1, fun _ => h0⟩, fun h1 => h1.1⟩
  constructor
  · show (if D.now s = none then D.names.erase s else D.names).Nodup
    by_cases h0 : D.now s = none
    · rw [if_pos h0]; exact h.nodup.erase _
    · rw [if_neg h0]; exact h.nodup
  · intro x
    show x ∈ (if D.now s = none then D.names.erase s else D.names) ↔ D.now x ≠ none ∨ upd D.safe s (D.now s) x ≠ none ∨ ∃ c, (x, c) ∈ others s D.chs
    rw [hn, h.names x]
    by_cases hx : x = s
    · subst hx
      rw [upd_same]
      have : ¬ ∃ c, (x, c) ∈ others x D.chs := by
        rintro ⟨c, hc⟩
        exact (mem_others.1 hc).2 rfl
      constructor
      · rintro ⟨_, h2⟩; exact .inl (h2 rfl)
      · rintro (h1 | h1 | h1)
        · exact ⟨.inl h1, fun _ => h1⟩
        · exact ⟨.inl h1, fun _ => h1⟩
        · exact absurd h1 this
    · rw [upd_other _ _ hx]
      have e : (∃ c, (x, c) ∈ others s D.chs) ↔ ∃ c, (x, c) ∈ D.chs := by
        constructor
        · rintro ⟨c, hc⟩; exact ⟨c, (mem_others.1 hc).1⟩
        · rintro ⟨c, hc⟩; exact ⟨c, mem_others.2 ⟨hc, hx⟩⟩
      rw [e]
      exact ⟨fun h1 => h1.1, fun h1 => ⟨h1, fun e => absurd e hx⟩⟩
  · intro x hx
    exact h.right x ((hn x).1 hx).1
  · show (if D.now s = none then D.names.erase s else D.names).length ≤ D.made
    have := h.count
    by_cases h0 : D.now s = none
    · rw [if_pos h0]
      have := List.length_erase_le (a := s) (l := D.names)
      omega
    · rw [if_neg h0]; exact this
  · exact h.nowSz
  · intro x b hb
    have hb' : upd D.safe s (D.now s) x = some b := hb
    by_cases hx : x = s
    · subst hx
      rw [upd_same] at hb'; exact h.nowSz x b hb'
    · rw [upd_other _ _ hx] at hb'; exact h.safeSz x b hb'
  · exact fun x hx => h.chSz x (mem_others.1 hx).1
  · exact h.asc.sublist List.filter_sublist
  · exact fun x hx => h.below x (mem_others.1 hx).1
  · exact fun x hx => h.kind x (mem_others.1 hx).1
  · exact Nat.le_trans (others_length s D.chs) h.len
  · exact h.room
  · show D.used = total (if D.now s = none then D.names.erase s else D.names) D.now
    rw [h.used]
    by_cases h0 : D.now s = none
    · rw [if_pos h0, total_perm D.now (List.perm_cons_erase hs)]
      unfold total
      rw [List.map_cons, List.sum_cons, h0]
      show 0 + _ = _
      omega
    · rw [if_neg h0]
theorem WF.sync {D : DS} (h : WF D) (s : ByteArray) : WF (D.sync s) := by
  unfold DS.sync
  by_cases h0 : D.syncN s = 0
  · rw [if_pos h0]; exact h.syncD s (syncN_zero h0).2
  · rw [if_neg h0]; exact h

end Go.Proofs.YtnhkpemajknfnaaGreatDoor.Disk

/-
  A disk in memory: its files, each in blocks of its own; what a call leaves of everything else.
-/
namespace Go.Proofs.YtnhkpemajknfnaaGreatDoor.Disk
open Go Go.RowKit Go.Proofs.YtnhkpemajknfnaaGreatDoor.Law

/-- Whose a block is: the disk's own, a file's, or somebody else's. -/
abbrev Owner := Nat → Option (Option ByteArray)

/-- A file in memory. -/
def FileAt (W : World) (O : Owner) (base : Nat) (s : ByteArray) (fb : Nat) (now safe : Option (List Nat)) (cs : List Chg) : Prop :=
  ∃ sh nv sv cv, FB W fb now.isSome nv safe.isSome sv sh cv ∧ Buf W base 5 nv (now.getD []) ∧ Buf W base 5 sv (safe.getD []) ∧ Share sh nv sv (now.getD []).length (safe.getD []).length ∧ OwnC W base cv cs ∧
    O fb = some (some s) ∧ ∀ g, nv.ownBlock = some g ∨ sv.ownBlock = some g ∨ cv.ownBlock = some g → O g = some (some s)

theorem FileAt.keep {W W' : World} {O O' : Owner} {base fb : Nat} {s : ByteArray} {now safe : Option (List Nat)} {cs : List Chg} (h : FileAt W O base s fb now safe cs)
    (hk : ∀ k, k < W.heap.size → O k = some (some s) → W'.heap[k]? = W.heap[k]? ∧ O' k = some (some s)) : FileAt W' O' base s fb now safe cs := by
  obtain ⟨sh, nv, sv, cv, h1, h2, h3, h4, h5, h6, h7⟩ := h
  refine ⟨sh, nv, sv, cv, ?_, h2.keep fun g hg => (hk g (h2.own g hg).2 (h7 g (.inl hg))).1, h3.keep fun g hg => (hk g (h3.own g hg).2 (h7 g (.inr (.inl hg)))).1, h4, h5.keep fun g hg => (hk g (h5.own g hg).2 (h7 g (.inr (.inr hg)))).1, (hk fb h1.lt h6).2, ?_⟩
  · exact (hk fb h1.lt h6).1.trans h1
  · rintro g (hg | hg | hg)
    · exact (hk g (h2.own g hg).2 (h7 g (.inl hg))).2
    · exact (hk g (h3.own g hg).2 (h7 g (.inr (.inl hg)))).2
    · exact (hk g (h5.own g hg).2 (h7 g (.inr (.inr hg)))).2

/-- The disk's own blocks. -/
structure Core (W : World) (O : Owner) (db mb : Nat) (D : DS) (F : ByteArray → Option Nat) : Prop where
  disk : DB W db mb (D.room : Int) (D.used : Int) (D.made : Int) D.fails
  map : ∃ n, n ≤ D.made ∧ MapP Tryz.prog 9 W mb n F
  odb : O db = some none
  omb : O mb = some none
  dom : ∀ s, Short s → ((F s).isSome ↔ s ∈ D.names)
  lt : ∀ k, O k ≠ none → k < W.heap.size

/-- A disk in memory. -/
def DiskAt (W : World) (O : Owner) (db : Nat) (D : DS) : Prop :=
  ∃ mb F, Core W O db mb D F ∧ ∀ s ∈ D.names, ∃ fb, F s = some fb ∧ FileAt W O (db + 1) s fb (D.now s) (D.safe s) (mine s D.chs)

/-- What a call leaves: what isn't the disk's lies as it lay, and isn't the disk's now. -/
structure Past (w : World) (O : Owner) (W : World) (O' : Owner) : Prop where
  os : W.os = w.os
  tape : W.tape = w.tape
  output : W.output = w.output
  size : w.heap.size ≤ W.heap.size
  same : ∀ k, k < w.heap.size → O k = none → W.heap[k]? = w.heap[k]?
  none : ∀ k, k < w.heap.size → O k = Option.none → O' k = Option.none

theorem Past.refl (w : World) (O : Owner) : Past w O w O := ⟨rfl, rfl, rfl, Nat.le_refl _, fun _ _ _ => rfl, fun _ _ h => h⟩
theorem Past.trans {a b c : World} {O P Q : Owner} (h : Past a O b P) (k : Past b P c Q) : Past a O c Q :=
  ⟨k.os.trans h.os, k.tape.trans h.tape, k.output.trans h.output, Nat.le_trans h.size k.size, fun j hj ho => (k.same j (Nat.lt_of_lt_of_le hj h.size) (h.none j hj ho)).trans (h.same j hj ho), fun j hj ho => k.none j (Nat.lt_of_lt_of_le hj h.size) (h.none j hj ho)⟩
theorem Past.of_below {w W : World} (O : Owner) (h : Below w.heap.size w W) : Past w O W O := ⟨h.os, h.tape, h.output, h.size, fun k hk _ => h.block k hk, fun _ _ h => h⟩
theorem Past.drew {w W : World} {O O' : Owner} (h : Past w O W O') : Past w O W.drew O' := ⟨h.os, h.tape, h.output, h.size, h.same, h.none⟩
/-- All below a block that no disk has lies as it lay. -/
theorem Past.below {w W : World} {O O' : Owner} {n : Nat} (h : Past w O W O') (hn : ∀ k, k < n → O k = Option.none) (hs : n ≤ w.heap.size) : Below n w W := ⟨h.os, h.tape, h.output, h.size, fun k hk => h.same k (Nat.lt_of_lt_of_le hk hs) (hn k hk)⟩
theorem Past.low {w W : World} {O O' : Owner} {n : Nat} (h : Past w O W O') (hn : ∀ k, k < n → O k = Option.none) (hs : n ≤ w.heap.size) : ∀ k, k < n → O' k = Option.none := fun k hk => h.none k (Nat.lt_of_lt_of_le hk hs) (hn k hk)

theorem DB.at {W W' : World} {db mb : Nat} {room used made : Int} {fails : Bool} (h : DB W db mb room used made fails) (hb : W'.heap[db]? = W.heap[db]?) : DB W' db mb room used made fails := hb.trans h

/-- The disk in a world that leaves all of its blocks. -/
theorem Core.keep {W W' : World} {O : Owner} {db mb : Nat} {D : DS} {F : ByteArray → Option Nat} (h : Core W O db mb D F) (hs : W.heap.size ≤ W'.heap.size) (hk : ∀ k, k < W.heap.size → O k ≠ none → W'.heap[k]? = W.heap[k]?) : Core W' O db mb D F := by
  obtain ⟨n, hn, hm⟩ := h.map
  exact ⟨h.disk.at (hk _ h.disk.lt (by rw [h.odb]; simp)), ⟨n, hn, hm.at (hk _ hm.lt (by rw [h.omb]; simp))⟩, h.odb, h.omb, h.dom, fun k hk => Nat.lt_of_lt_of_le (h.lt k hk) hs⟩
theorem DiskAt.keep {W W' : World} {O : Owner} {db : Nat} {D : DS} (h : DiskAt W O db D) (hs : W.heap.size ≤ W'.heap.size) (hk : ∀ k, k < W.heap.size → O k ≠ none → W'.heap[k]? = W.heap[k]?) : DiskAt W' O db D := by
  obtain ⟨mb, F, h1, h2⟩ := h
  refine ⟨mb, F, h1.keep hs hk, fun s hs' => ?_⟩
  obtain ⟨fb, h3, h4⟩ := h2 s hs'
  exact ⟨fb, h3, h4.keep fun k hk' ho => ⟨hk k hk' (by rw [ho]; simp), ho⟩⟩
theorem DiskAt.below {W W' : World} {O : Owner} {db : Nat} {D : DS} (h : DiskAt W O db D) (hB : Below W.heap.size W W') : DiskAt W' O db D := h.keep hB.size fun k hk _ => hB.block k hk
theorem DiskAt.lt {W : World} {O : Owner} {db : Nat} {D : DS} (h : DiskAt W O db D) : ∀ k, O k ≠ none → k < W.heap.size := by
  obtain ⟨mb, F, h1, _⟩ := h; exact h1.lt

/-- The blocks from n on to N are a file's. -/
def own (O : Owner) (n N : Nat) (s : ByteArray) : Owner := fun k => if n ≤ k ∧ k < N then some (some s) else O k
theorem own_old {O : Owner} {n N : Nat} {s : ByteArray} {k : Nat} (h : k < n) : own O n N s k = O k := if_neg (by omega)
theorem own_new {O : Owner} {n N : Nat} {s : ByteArray} {k : Nat} (h : n ≤ k) (h2 : k < N) : own O n N s k = some (some s) := if_pos ⟨h, h2⟩

/-- A call that turned one file: the disk behind it. -/
theorem DiskAt.turned {w W : World} {O : Owner} {db mb fb : Nat} {D D' : DS} {F F' : ByteArray → Option Nat} {s : ByteArray} (hc : Core w O db mb D F) (hf : ∀ x ∈ D.names, x ≠ s → ∃ fb, F x = some fb ∧ FileAt w O (db + 1) x fb (D.now x) (D.safe x) (mine x D.chs))
    (hdisk : DB W db mb (D'.room : Int) (D'.used : Int) (D'.made : Int) D'.fails) (hmap : ∃ n, n ≤ D'.made ∧ MapP Tryz.prog 9 W mb n F') (hdom : ∀ x, Short x → ((F' x).isSome ↔ x ∈ D'.names))
    (hsize : w.heap.size ≤ W.heap.size) (hold : ∀ k, k < w.heap.size → (∀ x, O k = some x → ∃ y, x = some y ∧ y ≠ s) → W.heap[k]? = w.heap[k]?)
    (hsame : ∀ x ∈ D'.names, x ≠ s → x ∈ D.names ∧ F' x = F x ∧ D'.now x = D.now x ∧ D'.safe x = D.safe x ∧ mine x D'.chs = mine x D.chs)
    (hfile : s ∈ D'.names → F' s = some fb ∧ FileAt W (own O w.heap.size W.heap.size s) (db + 1) s fb (D'.now s) (D'.safe s) (mine s D'.chs))
    (hos : W.os = w.os) (htape : W.tape = w.tape) (hout : W.output = w.output) :
    DiskAt W (own O w.heap.size W.heap.size s) db D' ∧ Past w O W (own O w.heap.size W.heap.size s) := by
  have hdb := hc.disk.lt
  have hmb : mb < w.heap.size := hc.lt mb (by rw [hc.omb]; simp)
  refine ⟨⟨mb, F', ⟨hdisk, hmap, (own_old hdb).trans hc.odb, (own_old hmb).trans hc.omb, hdom, fun k hk => ?_⟩, fun x hx => ?_⟩, ⟨hos, htape, hout, hsize, fun k hk ho => hold k hk (fun x hx => by rw [ho] at hx; cases hx), fun k hk ho => (own_old hk).trans ho⟩⟩
  · by_cases h : w.heap.size ≤ k ∧ k < W.heap.size
    · exact h.2
    · have : own O w.heap.size W.heap.size s k = O k := if_neg h
      rw [this] at hk
      exact Nat.lt_of_lt_of_le (hc.lt k hk) hsize
  · by_cases hxs : x = s
    · subst hxs
      exact ⟨fb, hfile hx⟩
    · obtain ⟨h1, h2, h3, h4, h5⟩ := hsame x hx hxs
      obtain ⟨fx, h6, h7⟩ := hf x h1 hxs
      rw [h2, h3, h4, h5]
      refine ⟨fx, h6, h7.keep fun k hk ho => ⟨hold k hk fun y hy => ?_, (own_old hk).trans ho⟩⟩
      rw [ho] at hy
      exact ⟨x, (Option.some.inj hy).symm, hxs⟩

/-- A new disk. -/
theorem DiskAt.made {w W : World} {room : Nat} {db mb : Nat} (h : DB W db mb (room : Int) 0 0 false) (hm : MapP Tryz.prog 9 W mb 0 (fun _ => none)) (hdb : w.heap.size ≤ db) (hmb : w.heap.size ≤ mb) :
    DiskAt W (fun k => if k = db ∨ k = mb then some none else none) db (DS.fresh room) := by
  refine ⟨mb, fun _ => none, ⟨h, ⟨0, Nat.le_refl _, hm⟩, if_pos (.inl rfl), if_pos (.inr rfl), fun s _ => by simp [DS.fresh], fun k hk => ?_⟩, fun s hs => by simp [DS.fresh] at hs⟩
  by_cases hk2 : k = db ∨ k = mb
  · rcases hk2 with rfl | rfl
    · exact h.lt
    · exact hm.lt
  · rw [if_neg hk2] at hk; exact absurd rfl hk

end Go.Proofs.YtnhkpemajknfnaaGreatDoor.Disk

/-
  Contracts of the shelf at this program: the tables of numbers, and each body as the contract's own. No conditions.
-/
namespace Go.Proofs
open Go.Shelf
def Tryz.cloneStr_ren : Go.Shelf.Ren := ⟨fun | 316 => 54 | n => n, fun | 9 => 9 | 3 => 3 | 4 => 4 | 37 => 29 | 0 => 0 | 127 => 123 | 5 => 5 | n => n, fun | n => n⟩
theorem Tryz.cloneStr : Go.Proofs.LaysM.n316 Tryz.prog Tryz.cloneStr_ren := {
  mixed := by kernel_rfl
  f316 := Tryz.func54.trans (congrArg some (by kernel_rfl))
  t0 := Tryz.underlying0
  a0 := Tryz.isAgg0
  z0 := Tryz.sizeOf0
  v0 := Tryz.zeroValue0
  t3 := Tryz.underlying3
  a3 := Tryz.isAgg3
  z3 := Tryz.sizeOf3
  v3 := Tryz.zeroValue3
  t4 := Tryz.underlying4
  a4 := Tryz.isAgg4
  z4 := Tryz.sizeOf4
  v4 := Tryz.zeroValue4
  t9 := Tryz.underlying9
  a9 := Tryz.isAgg9
  z9 := Tryz.sizeOf9
  v9 := Tryz.zeroValue9
  t37 := Tryz.underlying29
  a37 := Tryz.isAgg29
  z37 := Tryz.sizeOf29
  v37 := Tryz.zeroValue29
  t127 := Tryz.underlying123
  a127 := Tryz.isAgg123
  z127 := Tryz.sizeOf123
  v127 := Tryz.zeroValue123
  t5 := Tryz.underlying5
  a5 := Tryz.isAgg5
  z5 := Tryz.sizeOf5
  v5 := Tryz.zeroValue5
  i0 := by kernel_rfl
  i3 := by kernel_rfl
  i4 := by kernel_rfl
  i5 := by kernel_rfl
  i9 := by kernel_rfl
  i37 := by kernel_rfl
  i127 := by kernel_rfl }
def Tryz.sortOfFile_ren : Go.Shelf.Ren := ⟨fun | 6 => 62 | 15 => 84 | 14 => 83 | 28 => 103 | 29 => 104 | 20 => 95 | 21 => 96 | 22 => 97 | 23 => 98 | 24 => 99 | 25 => 100 | 26 => 101 | 27 => 102 | 46 => 117 | 47 => 118 | 48 => 119 | 49 => 120 | 50 => 121 | 57 => 139 | n => n, fun | 22 => 106 | 24 => 108 | 25 => 111 | 3 => 3 | 39 => 136 | 0 => 0 | 53 => 115 | 55 => 56 | 4 => 4 | 46 => 143 | 45 => 142 | 50 => 118 | 5 => 5 | 9 => 9 | 66 => 162 | 70 => 166 | 76 => 180 | 77 => 181 | n => n, fun | n => n⟩
theorem Tryz.sortOfFile : Go.Proofs.SlLaysF0.n6 Tryz.prog Tryz.sortOfFile_ren := {
  mixed := by kernel_rfl
  f6 := ⟨Tryz.f62.name, by decide, Tryz.func62.trans (congrArg some (by kernel_rfl))⟩
  f14 := ⟨Tryz.f83.name, by decide, Tryz.func83.trans (congrArg some (by kernel_rfl))⟩
  f15 := Tryz.func84.trans (congrArg some (by kernel_rfl))
  f20 := ⟨Tryz.f95.name, by decide, Tryz.func95.trans (congrArg some (by kernel_rfl))⟩
  f21 := ⟨Tryz.f96.name, by decide, Tryz.func96.trans (congrArg some (by kernel_rfl))⟩
  f22 := ⟨Tryz.f97.name, by decide, Tryz.func97.trans (congrArg some (by kernel_rfl))⟩
  f23 := ⟨Tryz.f98.name, by decide, Tryz.func98.trans (congrArg some (by kernel_rfl))⟩
  f24 := ⟨Tryz.f99.name, by decide, Tryz.func99.trans (congrArg some (by kernel_rfl))⟩
  f25 := ⟨Tryz.f100.name, by decide, Tryz.func100.trans (congrArg some (by kernel_rfl))⟩
  f26 := ⟨Tryz.f101.name, by decide, Tryz.func101.trans (congrArg some (by kernel_rfl))⟩
  f27 := ⟨Tryz.f102.name, by decide, Tryz.func102.trans (congrArg some (by kernel_rfl))⟩
  f28 := Tryz.func103.trans (congrArg some (by kernel_rfl))
  f29 := Tryz.func104.trans (congrArg some (by kernel_rfl))
  f46 := ⟨Tryz.f117.name, by decide, Tryz.func117.trans (congrArg some (by kernel_rfl))⟩
  f47 := Tryz.func118.trans (congrArg some (by kernel_rfl))
  f48 := Tryz.func119.trans (congrArg some (by kernel_rfl))
  f49 := ⟨Tryz.f120.name, by decide, Tryz.func120.trans (congrArg some (by kernel_rfl))⟩
  f50 := ⟨Tryz.f121.name, by decide, Tryz.func121.trans (congrArg some (by kernel_rfl))⟩
  f57 := ⟨Tryz.f139.name, by decide, Tryz.func139.trans (congrArg some (by kernel_rfl))⟩
  t0 := Tryz.underlying0
  a0 := Tryz.isAgg0
  z0 := Tryz.sizeOf0
  v0 := Tryz.zeroValue0
  t3 := Tryz.underlying3
  a3 := Tryz.isAgg3
  z3 := Tryz.sizeOf3
  v3 := Tryz.zeroValue3
  t4 := Tryz.underlying4
  a4 := Tryz.isAgg4
  z4 := Tryz.sizeOf4
  v4 := Tryz.zeroValue4
  t5 := Tryz.underlying5
  a5 := Tryz.isAgg5
  z5 := Tryz.sizeOf5
  v5 := Tryz.zeroValue5
  t9 := Tryz.underlying9
  a9 := Tryz.isAgg9
  z9 := Tryz.sizeOf9
  v9 := Tryz.zeroValue9
  t22 := Tryz.underlying106
  a22 := Tryz.isAgg106
  z22 := Tryz.sizeOf106
  v22 := Tryz.zeroValue106
  t25 := Tryz.underlying111
  a25 := Tryz.isAgg111
  z25 := Tryz.sizeOf111
  v25 := Tryz.zeroValue111
  t39 := Tryz.underlying136
  a39 := Tryz.isAgg136
  z39 := Tryz.sizeOf136
  v39 := Tryz.zeroValue136
  t45 := Tryz.underlying142
  a45 := Tryz.isAgg142
  z45 := Tryz.sizeOf142
  v45 := Tryz.zeroValue142
  t46 := Tryz.underlying143
  a46 := Tryz.isAgg143
  z46 := Tryz.sizeOf143
  v46 := Tryz.zeroValue143
  t50 := Tryz.underlying118
  a50 := Tryz.isAgg118
  z50 := Tryz.sizeOf118
  v50 := Tryz.zeroValue118
  t53 := Tryz.underlying115
  a53 := Tryz.isAgg115
  z53 := Tryz.sizeOf115
  v53 := Tryz.zeroValue115
  t55 := Tryz.underlying56
  a55 := Tryz.isAgg56
  z55 := Tryz.sizeOf56
  v55 := Tryz.zeroValue56
  t66 := Tryz.underlying162
  a66 := Tryz.isAgg162
  z66 := Tryz.sizeOf162
  v66 := Tryz.zeroValue162
  t70 := Tryz.underlying166
  a70 := Tryz.isAgg166
  z70 := Tryz.sizeOf166
  v70 := Tryz.zeroValue166
  t76 := Tryz.underlying180
  a76 := Tryz.isAgg180
  z76 := Tryz.sizeOf180
  v76 := Tryz.zeroValue180
  t77 := Tryz.underlying181
  a77 := Tryz.isAgg181
  z77 := Tryz.sizeOf181
  v77 := Tryz.zeroValue181 }
def Tryz.cmpInt_ren : Go.Shelf.Ren := ⟨fun | 5 => 64 | 7 => 85 | n => n, fun | 22 => 3 | 3 => 3 | 4 => 4 | n => n, fun | n => n⟩
theorem Tryz.cmpInt : Go.Proofs.SlLaysC2.n5 Tryz.prog Tryz.cmpInt_ren := {
  mixed := by kernel_rfl
  f5 := ⟨Tryz.f64.name, by decide, Tryz.func64.trans (congrArg some (by kernel_rfl))⟩
  f7 := ⟨Tryz.f85.name, by decide, Tryz.func85.trans (congrArg some (by kernel_rfl))⟩
  t3 := Tryz.underlying3
  a3 := Tryz.isAgg3
  z3 := Tryz.sizeOf3
  v3 := Tryz.zeroValue3
  t4 := Tryz.underlying4
  a4 := Tryz.isAgg4
  z4 := Tryz.sizeOf4
  v4 := Tryz.zeroValue4
  t22 := Tryz.underlying3
  a22 := Tryz.isAgg3
  z22 := Tryz.sizeOf3
  v22 := Tryz.zeroValue3 }
end Go.Proofs

/-
  Contracts off the shelf that disk's functions use: a string's clone; a row of changes sorted by number.
-/
namespace Go.Proofs.YtnhkpemajknfnaaGreatDoor.Disk
open Go Go.RowKit Go.Proofs.YtnhkpemajknfnaaGreatDoor.Law Go.Shelf Go.Lib Go.Sort

set_option maxRecDepth 100000 in
set_option maxHeartbeats 1000000 in
theorem cloneS_calls (s : ByteArray) (w : World) (h : s.size ≤ 281474976710656) : Calls Tryz.prog 29 #[.string s] w fun e W => e = .returned (.string s) ∧ Below w.heap.size w W := by
  have hcon := fun W => Any.stringslite_Clone Tryz.cloneStr s W h
  change ∀ W, Calls Tryz.prog 54 _ _ _ at hcon
  go_enter Tryz.func29, Tryz.ntmps29
  go_wp2_with (go_at_call 54; refine (hcon _).mono ?_; rintro e w' ⟨rfl, hB⟩)
  go_ret
  exact ⟨rfl, hB⟩

instance : Inhabited Chg := ⟨⟨0, 0, 0, ⟨#[]⟩⟩⟩

/-- A file and a change, as cells. -/
def encX (x : Nat × Chg) : List Value := [.pointer (some ⟨x.1, 0, none⟩), .int .i64 (x.2.n : Nat), .int .i64 (x.2.kind : Nat), .int .i64 (x.2.pos : Nat), .string x.2.s]
abbrev cmpX (x y : Nat × Chg) : Int := Lib.compareInt (x.2.n : Nat) (y.2.n : Nat)
theorem ltX (x y : Nat × Chg) : ltOf cmpX x y = decide (x.2.n < y.2.n) := by
  unfold ltOf cmpX Lib.compareInt
  by_cases h1 : x.2.n < y.2.n
  · simp [h1]
  · by_cases h2 : y.2.n < x.2.n <;> simp [h1, h2]
theorem swoX : SWO (ltOf cmpX) where
  irrefl x := by rw [ltX]; simp
  trans x y z h1 h2 := by rw [ltX] at *; simp at *; omega
  ntrans x y z h1 h2 := by rw [ltX] at *; simp at *; omega

set_option maxRecDepth 100000 in
set_option maxHeartbeats 1000000 in
theorem closureX (x y : Nat × Chg) (W : World) : Calls Tryz.prog 63 #[.agg (encX x).toArray, .agg (encX y).toArray] W fun e w' => e = .returned (.int .i64 (cmpX x y)) ∧ ∃ q os', w' = grow (W.drewN q) os' := by
  have hcon := fun W' => AnyG.cmp_Compare_int Tryz.cmpInt (x.2.n : Nat) (y.2.n : Nat) W'
  change ∀ W', Calls Tryz.prog 64 _ _ _ at hcon
  unfold cmpX
  generalize Lib.compareInt (x.2.n : Nat) (y.2.n : Nat) = r at hcon ⊢
  unfold encX
  go_enter Tryz.func63, Tryz.ntmps63
  go_wp2_with (go_at_call 64; refine (hcon _).mono ?_; rintro e w' ⟨rfl, rfl⟩)
  go_ret
  exact ⟨rfl, 0, _, by rw [alloc_eq_grow, alloc_eq_grow, grow_grow]; rfl⟩

theorem sortX_calls (blk off cap : Nat) (d : Array (Nat × Chg)) (w : World) (hH : HoldsK encX 5 w blk off d) (hblk : blk < w.heap.size) (hsz : d.size < 4611686018427387904) :
    Calls Tryz.prog 62 #[.slice (some ⟨blk, off, none⟩) d.size cap, .func (.func 63) #[] #[]] w fun e w' => e = .returned (.tuple #[]) ∧ ∃ d' n os, PermIn 0 d.size d d' ∧ SortedIn (ltOf cmpX) 0 d.size d' ∧ w' = sortWorldK encX 5 w blk off n d' os := by
  have eg : ∀ args w, (callFunc 63 args).run Tryz.prog w = .ok (.enter 63 args) w := enters_of Tryz.func63 (by kernel_rfl) rfl
  have hcon := AnyQ.slices_SortFunc Tryz.sortOfFile 5 Tryz.isAgg108 Tryz.sizeOf108 encX (fun _ => rfl) (fun x v hv => by simp [encX] at hv; rcases hv with rfl | rfl | rfl | rfl | rfl <;> rfl) cmpX swoX 63 #[] blk off cap d w eg (fun _ _ _ _ x y => closureX x y _) hH hblk hsz
  change Calls Tryz.prog 62 _ _ _ at hcon
  exact hcon

end Go.Proofs.YtnhkpemajknfnaaGreatDoor.Disk
