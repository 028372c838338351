/-
  Entries, their items, and when a message is an entry's: plain definitions and facts, of no program. What was read is of a size that can lie in memory.
-/
import Derived.Test.YtffehnojcajhiaaWireBackMath
import Derived.Test.YtffehnojcajhiaaWireDecMath
namespace Go.Proofs.Ytffehnojcajhiaa.Wire.Entry
open Go.Proofs.Ytffehnojcajhiaa.Law

/-- A proposition as a Bool. -/
noncomputable def bP (p : Prop) : Bool := @decide p (Classical.propDecidable p)
theorem bP_true {p : Prop} (h : p) : bP p = true := @decide_eq_true p (Classical.propDecidable p) h
theorem bP_false {p : Prop} (h : ¬ p) : bP p = false := @decide_eq_false p (Classical.propDecidable p) h
theorem bP_iff {p : Prop} : bP p = true ↔ p := @decide_eq_true_iff p (Classical.propDecidable p)

/-- A record, an operator, an entry. -/
structure Rec where
  p : Int
  q : Int
  a : Int
  key : ByteArray
  val : Nat
structure Opr where
  kind : Int
  ins : List Int
  arg : Int
  num : Nat
  rounds : Int
  test : Int
  lim : Nat
structure Ent where
  kind : Int
  r : Rec
  ops : List Opr
  n : Int

def zeroR : Rec := ⟨0, 0, 0, noT, 0⟩
def zeroE : Ent := ⟨0, zeroR, [], 0⟩

def Rec.bare (r : Rec) : Prop := r.p = 0 ∧ r.q = 0 ∧ r.a = 0 ∧ r.key = noT ∧ r.val = 0
def Rec.good (r : Rec) : Prop := 0 ≤ r.p ∧ r.p ≤ 63 ∧ 0 ≤ r.q ∧ 0 ≤ r.a ∧ r.a < 8 ∧ r.key.size ≤ 32
def goodOps (l : List Opr) : Prop := l.length ≤ 16 ∧ ∀ x ∈ l, x.ins.length ≤ 2
/-- Is it in form? -/
def Ent.good (e : Ent) : Prop :=
  (e.kind = 0 ∧ e.r.bare ∧ e.ops = [] ∧ e.n = 0) ∨ (e.kind = 1 ∧ e.r.good ∧ e.ops = [] ∧ e.n = 0) ∨
  (e.kind = 3 ∧ e.r.bare ∧ goodOps e.ops ∧ e.n = 0) ∨ ((e.kind = 2 ∨ e.kind = 4 ∨ e.kind = 5) ∧ e.r.bare ∧ e.ops = [] ∧ 0 ≤ e.n)

theorem bare_eq {r : Rec} (h : r.bare) : r = zeroR := by
  obtain ⟨h1, h2, h3, h4, h5⟩ := h
  cases r
  simp only at h1 h2 h3 h4 h5
  subst h1 h2 h3 h4 h5
  rfl
theorem zeroR_bare : zeroR.bare := ⟨rfl, rfl, rfl, rfl, rfl⟩

/-- Ints are ints, and what lies in memory is no longer than memory. -/
def i64 (n : Int) : Prop := -9223372036854775808 ≤ n ∧ n ≤ 9223372036854775807
def Rec.wf (r : Rec) : Prop := i64 r.p ∧ i64 r.q ∧ i64 r.a ∧ r.key.size ≤ 140737488351232 ∧ r.val < 4294967296
def Opr.wf (x : Opr) : Prop := i64 x.kind ∧ (∀ y ∈ x.ins, i64 y) ∧ i64 x.arg ∧ x.num < 4294967296 ∧ i64 x.rounds ∧ i64 x.test ∧ x.lim < 4294967296 ∧ x.ins.length * 8 ≤ 140737488351232
def Ent.wf (e : Ent) : Prop := i64 e.kind ∧ e.r.wf ∧ (∀ x ∈ e.ops, x.wf) ∧ e.ops.length * 72 ≤ 140737488351232 ∧ i64 e.n

/-- Items. -/
def iI (n : Int) : Item := .mk 0 n noT []
def iT (s : ByteArray) : Item := .mk 1 0 s []
def iL (l : List Item) : Item := .mk 2 0 noT l
def insL (l : List Int) : List Item := l.map iI
def opL (x : Opr) : List Item := [iI x.kind, iL (insL x.ins), iI x.arg, iI (x.num : Nat), iI x.rounds, iI x.test, iI (x.lim : Nat)]
def opI (x : Opr) : Item := iL (opL x)
def opsL (l : List Opr) : List Item := l.map opI
def recL (k : Int) (r : Rec) : List Item := [iI k, iI r.p, iI r.q, iI r.a, iT r.key, iI (r.val : Nat)]
/-- The items of an entry in form. -/
def msg (e : Ent) : List Item :=
  if e.kind = 0 then [] else if e.kind = 1 then recL e.kind e.r else if e.kind = 3 then [iI e.kind, iL (opsL e.ops)] else [iI e.kind, iI e.n]
/-- The text's bytes and the error. -/
noncomputable def encE (e : Ent) : List Nat × Nat := if bP e.good = true then encN (msg e) else ([], 3)

theorem encE_good {e : Ent} (h : e.good) : encE e = encN (msg e) := by unfold encE; rw [if_pos (bP_true h)]
theorem encE_bad {e : Ent} (h : ¬ e.good) : encE e = ([], 3) := by unfold encE; rw [if_neg (by rw [bP_false h]; decide)]
theorem encE_err {e : Ent} (h : (encE e).2 = 0) : e.good := by
  refine Classical.byContradiction fun hg => ?_
  rw [encE_bad hg] at h
  cases h

/-- A number of 32 bits, if it is one. -/
def small (n : Int) : Option Nat := if 0 ≤ n ∧ n < 4294967296 then some n.toNat else none
theorem small_some {n : Int} {v : Nat} (h : small n = some v) : n = (v : Int) ∧ v < 4294967296 := by
  unfold small at h
  split at h
  · rename_i h1
    simp only [Option.some.injEq] at h
    omega
  · cases h
theorem small_of {v : Nat} (h : v < 4294967296) : small (v : Nat) = some v := by
  unfold small
  rw [if_pos (by omega)]
  simp

/-- What a message's items are read as. -/
def rdRec : List Item → Option Rec
  | [a, b, c, d, e] => if a.kind = 0 ∧ b.kind = 0 ∧ c.kind = 0 ∧ d.kind = 1 ∧ e.kind = 0 then (small e.n).map fun v => ⟨a.n, b.n, c.n, d.s, v⟩ else none
  | _ => none
def rdNum : List Item → Option Int
  | [a] => if a.kind = 0 then some a.n else none
  | _ => none
def allInt (l : List Item) : Prop := ∀ x ∈ l, x.kind = 0
noncomputable def rdOp (it : Item) : Option Opr :=
  match it.kids with
  | [k, i, a, m, r, t, l] =>
    if bP (i.kind = 2 ∧ k.kind = 0 ∧ a.kind = 0 ∧ m.kind = 0 ∧ r.kind = 0 ∧ t.kind = 0 ∧ l.kind = 0 ∧ allInt i.kids) = true then
      match small m.n, small l.n with
      | some mv, some lv => some ⟨k.n, i.kids.map Item.n, a.n, mv, r.n, t.n, lv⟩
      | _, _ => none
    else none
  | _ => none
noncomputable def rdOps : List Item → Option (List Opr)
  | [] => some []
  | x :: r => match rdOp x with
    | none => none
    | some o => match rdOps r with
      | none => none
      | some l => some (o :: l)
noncomputable def rdGraph : List Item → Option (List Opr)
  | [a] => if a.kind = 2 then rdOps a.kids else none
  | _ => none
noncomputable def rdE : List Item → Option Ent
  | [] => some zeroE
  | x :: f =>
    if x.n = 1 then (rdRec f).map fun r => ⟨1, r, [], 0⟩
    else if x.n = 3 then (rdGraph f).map fun l => ⟨3, zeroR, l, 0⟩
    else if x.n = 2 ∨ x.n = 4 ∨ x.n = 5 then (rdNum f).map fun n => ⟨x.n, zeroR, [], n⟩
    else none

/-- What bytes are decoded as. -/
noncomputable def decE (bs : List Nat) : Option Ent :=
  match decN bs with
  | .error _ => none
  | .ok l => match rdE l with
    | none => none
    | some e => if bP e.good = true then some e else none

theorem decE_some {bs : List Nat} {e : Ent} (h : decE bs = some e) : ∃ l, decN bs = .ok l ∧ rdE l = some e ∧ e.good := by
  unfold decE at h
  match hq : decN bs with
  | .error k => rw [hq] at h; cases h
  | .ok l =>
    rw [hq] at h
    dsimp only at h
    match hr : rdE l with
    | none => rw [hr] at h; cases h
    | some e' =>
      rw [hr] at h
      dsimp only at h
      split at h
      · rename_i hg
        obtain rfl := Option.some.inj h
        exact ⟨l, rfl, hr, bP_iff.1 hg⟩
      · cases h
theorem decE_of {bs : List Nat} {e : Ent} {l : List Item} (h1 : decN bs = .ok l) (h2 : rdE l = some e) (h3 : e.good) : decE bs = some e := by
  unfold decE
  rw [h1]
  dsimp only
  rw [h2]
  dsimp only
  rw [if_pos (bP_true h3)]

/-- Items in form. -/
theorem int_of {x : Item} (h : x.fine) (hk : x.kind = 0) : x = iI x.n := by
  cases x with
  | mk k n s l =>
    have h1 := form_cases (fine_form h)
    simp only [Item.kind] at hk
    rcases h1 with ⟨rfl, rfl, rfl⟩ | ⟨h2, _⟩ | ⟨h2, _⟩
    · rfl
    · omega
    · omega
theorem int_of_n {x : Item} (h : x.fine) (hk : x.n ≠ 0) : x = iI x.n := by
  cases x with
  | mk k n s l =>
    have h1 := form_cases (fine_form h)
    simp only [Item.n] at hk
    rcases h1 with ⟨rfl, rfl, rfl⟩ | ⟨_, h2, _⟩ | ⟨_, h2, _⟩
    · rfl
    · exact absurd h2 hk
    · exact absurd h2 hk
theorem text_of {x : Item} (h : x.fine) (hk : x.kind = 1) : x = iT x.s := by
  cases x with
  | mk k n s l =>
    have h1 := form_cases (fine_form h)
    simp only [Item.kind] at hk
    rcases h1 with ⟨h2, _⟩ | ⟨rfl, rfl, rfl⟩ | ⟨h2, _⟩
    · omega
    · rfl
    · omega
theorem list_of {x : Item} (h : x.fine) (hk : x.kind = 2) : x = iL x.kids := by
  cases x with
  | mk k n s l =>
    have h1 := form_cases (fine_form h)
    simp only [Item.kind] at hk
    rcases h1 with ⟨h2, _⟩ | ⟨h2, _⟩ | ⟨rfl, rfl, rfl⟩
    · omega
    · omega
    · rfl
theorem list_of_kids {x : Item} (h : x.fine) (hk : x.kids ≠ []) : x = iL x.kids := by
  cases x with
  | mk k n s l =>
    have h1 := form_cases (fine_form h)
    simp only [Item.kids] at hk
    rcases h1 with ⟨_, _, h2⟩ | ⟨_, _, h2⟩ | ⟨rfl, rfl, rfl⟩
    · exact absurd h2 hk
    · exact absurd h2 hk
    · rfl
theorem fineL_mem : ∀ {l : List Item} {x : Item}, fineL l → x ∈ l → x.fine
  | [], _, _, h => by cases h
  | y :: r, x, hf, h => by
    rw [fineL] at hf
    rcases List.mem_cons.1 h with rfl | h
    · exact hf.1
    · exact fineL_mem hf.2 h
theorem insL_of : ∀ {l : List Item}, fineL l → allInt l → insL (l.map Item.n) = l
  | [], _, _ => rfl
  | y :: r, hf, ha => by
    rw [fineL] at hf
    have h1 := int_of hf.1 (ha y (List.mem_cons_self))
    have h2 := insL_of hf.2 (fun x hx => ha x (List.mem_cons_of_mem _ hx))
    show iI y.n :: insL (r.map Item.n) = y :: r
    rw [h2, ← h1]
theorem insL_n : ∀ l : List Int, (insL l).map Item.n = l
  | [] => rfl
  | y :: r => by show y :: (insL r).map Item.n = y :: r; rw [insL_n r]
theorem insL_int (l : List Int) : allInt (insL l) := by
  intro x hx
  obtain ⟨y, _, rfl⟩ := List.mem_map.1 hx
  rfl

theorem rdOp_back {x : Item} {o : Opr} (hf : x.fine) (h : rdOp x = some o) : opI o = x := by
  unfold rdOp at h
  split at h
  · rename_i k i a m r t l hk
    have hx := list_of_kids hf (by rw [hk]; simp)
    have hkf := fine_kids hf
    rw [hk] at hkf
    split at h
    · rename_i hall
      obtain ⟨h1, h2, h3, h4, h5, h6, h7, h8⟩ := bP_iff.1 hall
      split at h
      · rename_i mv lv hm hl
        obtain rfl := Option.some.inj h
        have em := small_some hm
        have el := small_some hl
        have fk := int_of (fineL_mem hkf (by simp)) h2
        have fi := list_of (fineL_mem hkf (by simp)) h1
        have fa := int_of (fineL_mem hkf (by simp)) h3
        have fm := int_of (fineL_mem hkf (by simp)) h4
        have fr := int_of (fineL_mem hkf (by simp)) h5
        have ft := int_of (fineL_mem hkf (by simp)) h6
        have fl := int_of (fineL_mem hkf (by simp)) h7
        rw [hx, hk]
        unfold opI opL
        simp only
        rw [insL_of (fine_kids (fineL_mem hkf (by simp))) h8, ← em.1, ← el.1, ← fk, ← fi, ← fa, ← fm, ← fr, ← ft, ← fl]
      · cases h
    · cases h
  · cases h
theorem rdOp_of {o : Opr} (hw : o.wf) : rdOp (opI o) = some o := by
  have hk : (opI o).kids = [iI o.kind, iL (insL o.ins), iI o.arg, iI (o.num : Nat), iI o.rounds, iI o.test, iI (o.lim : Nat)] := rfl
  unfold rdOp
  rw [hk]
  dsimp only
  rw [if_pos (bP_true ⟨rfl, rfl, rfl, rfl, rfl, rfl, rfl, insL_int _⟩)]
  have h1 : small (iI (o.num : Nat)).n = some o.num := small_of hw.2.2.2.1
  have h2 : small (iI (o.lim : Nat)).n = some o.lim := small_of hw.2.2.2.2.2.2.1
  have h3 : (iL (insL o.ins)).kids.map Item.n = o.ins := insL_n _
  rw [h1, h2, h3]
  rfl

theorem rdOps_back : ∀ {l : List Item} {m : List Opr}, fineL l → rdOps l = some m → opsL m = l
  | [], m, _, h => by
    rw [rdOps] at h
    obtain rfl := Option.some.inj h
    rfl
  | x :: r, m, hf, h => by
    rw [rdOps] at h
    rw [fineL] at hf
    match ho : rdOp x with
    | none => rw [ho] at h; cases h
    | some o =>
      rw [ho] at h
      dsimp only at h
      match hr : rdOps r with
      | none => rw [hr] at h; cases h
      | some l =>
        rw [hr] at h
        obtain rfl := Option.some.inj h
        show opI o :: opsL l = x :: r
        rw [rdOp_back hf.1 ho, rdOps_back hf.2 hr]
theorem rdOps_of : ∀ {m : List Opr}, (∀ x ∈ m, x.wf) → rdOps (opsL m) = some m
  | [], _ => rfl
  | x :: r, h => by
    show rdOps (opI x :: opsL r) = _
    rw [rdOps, rdOp_of (h x List.mem_cons_self)]
    dsimp only
    rw [rdOps_of (fun y hy => h y (List.mem_cons_of_mem _ hy))]

/-- What was read as an entry in form is its message. -/
theorem rdE_back {l : List Item} {e : Ent} (hf : fineL l) (h : rdE l = some e) : msg e = l := by
  match l, hf, h with
  | [], _, h =>
    rw [rdE] at h
    obtain rfl := Option.some.inj h
    rfl
  | x :: f, hf, h =>
    rw [rdE] at h
    rw [fineL] at hf
    split at h
    · rename_i h1
      have hx := int_of_n hf.1 (by omega)
      match f, hf, h with
      | [a, b, c, d, e'], hf, h =>
        rw [rdRec] at h
        split at h
        · rename_i hk
          obtain ⟨k1, k2, k3, k4, k5⟩ := hk
          match hs : small e'.n with
          | none => rw [hs] at h; cases h
          | some v =>
            rw [hs] at h
            obtain rfl := Option.some.inj h
            have fa := int_of (fineL_mem hf.2 (by simp)) k1
            have fb := int_of (fineL_mem hf.2 (by simp)) k2
            have fc := int_of (fineL_mem hf.2 (by simp)) k3
            have fd := text_of (fineL_mem hf.2 (by simp)) k4
            have fe := int_of (fineL_mem hf.2 (by simp)) k5
            show recL 1 _ = _
            unfold recL
            simp only
            rw [← (small_some hs).1, ← fa, ← fb, ← fc, ← fd, ← fe, ← h1, ← hx]
        · cases h
      | [], _, h => cases h
      | [_], _, h => cases h
      | [_, _], _, h => cases h
      | [_, _, _], _, h => cases h
      | [_, _, _, _], _, h => cases h
      | _ :: _ :: _ :: _ :: _ :: _ :: _, _, h => cases h
    · split at h
      · rename_i h1
        have hx := int_of_n hf.1 (by omega)
        match f, hf, h with
        | [a], hf, h =>
          rw [rdGraph] at h
          split at h
          · rename_i hk
            match hs : rdOps a.kids with
            | none => rw [hs] at h; cases h
            | some m =>
              rw [hs] at h
              obtain rfl := Option.some.inj h
              have fa := list_of (fineL_mem hf.2 (by simp)) hk
              show [iI 3, iL (opsL m)] = _
              rw [rdOps_back (fine_kids (fineL_mem hf.2 (by simp))) hs, ← fa, ← h1, ← hx]
          · cases h
        | [], _, h => cases h
        | _ :: _ :: _, _, h => cases h
      · split at h
        · rename_i n1 n3 h1
          have hx := int_of_n hf.1 (by omega)
          match f, hf, h with
          | [a], hf, h =>
            rw [rdNum] at h
            split at h
            · rename_i hk
              obtain rfl := Option.some.inj h
              have fa := int_of (fineL_mem hf.2 (by simp)) hk
              unfold msg
              simp only
              rw [if_neg (by omega), if_neg (by omega), if_neg (by omega), ← fa, ← hx]
            · cases h
          | [], _, h => cases h
          | _ :: _ :: _, _, h => cases h
        · cases h
/-- An entry's message is read as it. -/
theorem rdE_of {e : Ent} (hw : e.wf) (hg : e.good) : rdE (msg e) = some e := by
  obtain ⟨k, r, ops, n⟩ := e
  rcases hg with ⟨h1, h2, h3, h4⟩ | ⟨h1, h2, h3, h4⟩ | ⟨h1, h2, h3, h4⟩ | ⟨h1, h2, h3, h4⟩
  · simp only at h1 h2 h3 h4
    subst h1 h3 h4
    rw [bare_eq h2]
    rfl
  · simp only at h1 h2 h3 h4
    subst h1 h3 h4
    show rdE (recL 1 r) = _
    unfold recL
    rw [rdE, if_pos (show (iI 1).n = 1 from rfl), rdRec, if_pos ⟨rfl, rfl, rfl, rfl, rfl⟩]
    show ((small ((r.val : Nat) : Int)).map fun v => (⟨r.p, r.q, r.a, r.key, v⟩ : Rec)).map _ = _
    rw [small_of hw.2.1.2.2.2.2]
    rfl
  · simp only at h1 h2 h3 h4
    subst h1 h4
    rw [bare_eq h2]
    show rdE [iI 3, iL (opsL ops)] = _
    rw [rdE, if_neg (show ¬ (iI 3).n = 1 by decide), if_pos (show (iI 3).n = 3 from rfl), rdGraph]
    show (rdOps (opsL ops)).map _ = _
    rw [rdOps_of hw.2.2.1]
    rfl
  · simp only at h1 h2 h3 h4
    subst h3
    rw [bare_eq h2]
    unfold msg
    simp only
    rw [if_neg (by omega), if_neg (by omega), if_neg (by omega), rdE]
    have hk : (iI k).n = k := rfl
    rw [hk, if_neg (by omega), if_neg (by omega), if_pos h1, rdNum]
    rfl

/-- An entry's items are of a size that can lie in memory. -/
theorem iI_sized {n : Int} (h : i64 n) : (iI n).sized := by
  rw [iI, Item.sized]
  exact ⟨by decide, by decide, h.1, h.2, by decide, by decide, by rw [sizedL]; trivial⟩
theorem iT_sized {s : ByteArray} (h : s.size ≤ 140737488351232) : (iT s).sized := by
  rw [iT, Item.sized]
  exact ⟨by decide, by decide, by decide, by decide, by omega, by decide, by rw [sizedL]; trivial⟩
theorem iL_sized {l : List Item} (hl : l.length ≤ 9223372036854775807) (h : sizedL l) : (iL l).sized := by
  rw [iL, Item.sized]
  exact ⟨by decide, by decide, by decide, by decide, by decide, hl, h⟩
theorem sizedL_all : ∀ {l : List Item}, (∀ x ∈ l, x.sized) → sizedL l
  | [], _ => by rw [sizedL]; trivial
  | x :: r, h => by rw [sizedL]; exact ⟨h x List.mem_cons_self, sizedL_all (fun y hy => h y (List.mem_cons_of_mem _ hy))⟩
theorem small_i64 {v : Nat} (h : v < 4294967296) : i64 (v : Int) := ⟨by omega, by omega⟩
theorem insL_sized {l : List Int} (h : ∀ y ∈ l, i64 y) : sizedL (insL l) := sizedL_all fun x hx => by
  obtain ⟨y, hy, rfl⟩ := List.mem_map.1 hx
  exact iI_sized (h y hy)
theorem insL_length (l : List Int) : (insL l).length = l.length := List.length_map _
theorem opsL_length (l : List Opr) : (opsL l).length = l.length := List.length_map _
theorem opL_sized {x : Opr} (h : x.wf) : sizedL (opL x) := by
  obtain ⟨h1, h2, h3, h4, h5, h6, h7, h8⟩ := h
  rw [opL, sizedL, sizedL, sizedL, sizedL, sizedL, sizedL, sizedL, sizedL]
  exact ⟨iI_sized h1, iL_sized (by rw [insL_length]; omega) (insL_sized h2), iI_sized h3, iI_sized (small_i64 h4), iI_sized h5, iI_sized h6, iI_sized (small_i64 h7), trivial⟩
theorem opI_sized {x : Opr} (h : x.wf) : (opI x).sized := iL_sized (by show 7 ≤ _; decide) (opL_sized h)
theorem opsL_sized {l : List Opr} (h : ∀ x ∈ l, x.wf) : sizedL (opsL l) := sizedL_all fun x hx => by
  obtain ⟨y, hy, rfl⟩ := List.mem_map.1 hx
  exact opI_sized (h y hy)
theorem msg_sized {e : Ent} (hw : e.wf) : sizedL (msg e) := by
  obtain ⟨h1, ⟨r1, r2, r3, r4, r5⟩, h3, h4, h5⟩ := hw
  unfold msg
  split
  · rw [sizedL]; trivial
  · split
    · rw [recL, sizedL, sizedL, sizedL, sizedL, sizedL, sizedL, sizedL]
      exact ⟨iI_sized h1, iI_sized r1, iI_sized r2, iI_sized r3, iT_sized r4, iI_sized (small_i64 r5), trivial⟩
    · split
      · rw [sizedL, sizedL, sizedL]
        exact ⟨iI_sized h1, iL_sized (by rw [opsL_length]; omega) (opsL_sized h3), trivial⟩
      · rw [sizedL, sizedL, sizedL]
        exact ⟨iI_sized h1, iI_sized h5, trivial⟩
theorem msg_length (e : Ent) : (msg e).length ≤ 6 := by
  unfold msg
  split
  · decide
  · split
    · exact Nat.le_refl 6
    · split
      · exact (show 2 ≤ 6 by decide)
      · exact (show 2 ≤ 6 by decide)

theorem enc_ok' {l : List Item} (h : (encN l).2 = 0) : fineL l := by
  unfold encN at h
  split at h
  · rename_i h0; exact absurd h h0
  · rename_i h0
    exact (chkL_ok 1 0 l (by simpa using h0)).2.1

/-- What is encoded is decoded. -/
theorem decE_enc {e : Ent} (hw : e.wf) (h : (encE e).2 = 0) : decE (encE e).1 = some e := by
  have hg := encE_err h
  rw [encE_good hg] at h ⊢
  exact decE_of (dec_enc (msg_sized hw) h) (rdE_of hw hg) hg
/-- What is decoded is encoded. -/
theorem encE_dec {bs : List Nat} {e : Ent} (hb : ∀ x ∈ bs, x < 256) (h : decE bs = some e) : encE e = (bs, 0) := by
  obtain ⟨l, h1, h2, h3⟩ := decE_some h
  have hd := dec_back hb h1
  rw [encE_good h3, rdE_back (enc_ok' (by rw [hd.1])) h2]
  exact hd.1
/-- Two entries have one text just if they are the same. -/
theorem encE_inj {a b : Ent} (ha : a.wf) (hb : b.wf) (h1 : (encE a).2 = 0) (h2 : (encE b).2 = 0) (h : (encE a).1 = (encE b).1) : a = b := by
  have e1 := decE_enc ha h1
  have e2 := decE_enc hb h2
  rw [h, e2] at e1
  exact (Option.some.inj e1).symm

/-- What was decoded is of a size that can lie in memory. -/
theorem sizedL_mem : ∀ {l : List Item} {x : Item}, sizedL l → x ∈ l → x.sized
  | [], _, _, h => by cases h
  | y :: r, x, hf, h => by
    rw [sizedL] at hf
    rcases List.mem_cons.1 h with rfl | h
    · exact hf.1
    · exact sizedL_mem hf.2 h

end Go.Proofs.Ytffehnojcajhiaa.Wire.Entry

namespace Go.Proofs.Ytffehnojcajhiaa.Wire.Entry
open Go.Proofs.Ytffehnojcajhiaa.Law

theorem strs_mem : ∀ {l : List Item} {x : Item}, x ∈ l → x.s.size ≤ strsL l
  | [], _, h => by cases h
  | y :: r, x, h => by
    rw [strsL]
    rcases List.mem_cons.1 h with rfl | h
    · cases x; rw [Item.strs]; simp only [Item.s]; omega
    · have := strs_mem h; omega
theorem nodes_mem {l : List Item} {x : Item} (h : x ∈ l) : x.nodes ≤ nodesL l := by
  obtain ⟨i, hi⟩ := List.getElem?_of_mem h
  exact nodesL_get l i x hi
theorem len_le_nodes {l : List Item} : l.length ≤ nodesL l := length_le_nodes l
theorem sized_n {l : List Item} {x : Item} (hs : sizedL l) (h : x ∈ l) : i64 x.n := by
  have := sized_of (sizedL_mem hs h)
  exact ⟨this.2.2.1, this.2.2.2.1⟩

theorem rdOp_wf {x : Item} {o : Opr} (hs : sizedL x.kids) (hn : nodesL x.kids ≤ 4096) (h : rdOp x = some o) : o.wf := by
  unfold rdOp at h
  split at h
  · rename_i k i a m r t l hk
    rw [hk] at hs hn
    split at h
    · rename_i hall
      split at h
      · rename_i mv lv hm hl
        obtain rfl := Option.some.inj h
        have hik : sizedL i.kids := sized_kids (sizedL_mem hs (by simp))
        have hin : i.nodes ≤ nodesL [k, i, a, m, r, t, l] := nodes_mem (by simp)
        have h1 := nodes_kids i
        have h2 := @len_le_nodes i.kids
        refine ⟨sized_n hs (by simp), fun y hy => ?_, sized_n hs (by simp), (small_some hm).2, sized_n hs (by simp), sized_n hs (by simp), (small_some hl).2, ?_⟩
        · obtain ⟨z, hz, rfl⟩ := List.mem_map.1 hy
          exact sized_n hik hz
        · simp only [List.length_map]; omega
      · cases h
    · cases h
  · cases h
theorem rdOps_wf : ∀ {l : List Item} {m : List Opr}, sizedL l → nodesL l ≤ 4096 → rdOps l = some m → (∀ x ∈ m, x.wf) ∧ m.length = l.length
  | [], m, _, _, h => by
    rw [rdOps] at h
    obtain rfl := Option.some.inj h
    exact ⟨by simp, rfl⟩
  | x :: r, m, hs, hn, h => by
    rw [rdOps] at h
    rw [sizedL] at hs
    rw [nodesL] at hn
    match ho : rdOp x with
    | none => rw [ho] at h; cases h
    | some o =>
      rw [ho] at h
      dsimp only at h
      match hr : rdOps r with
      | none => rw [hr] at h; cases h
      | some l =>
        rw [hr] at h
        obtain rfl := Option.some.inj h
        have h1 := rdOps_wf hs.2 (by omega) hr
        have h2 := nodes_kids x
        refine ⟨fun y hy => ?_, by rw [List.length_cons, List.length_cons, h1.2]⟩
        rcases List.mem_cons.1 hy with rfl | hy
        · exact rdOp_wf (sized_kids hs.1) (by omega) ho
        · exact h1.1 y hy
theorem rdE_wf {l : List Item} {e : Ent} (hs : sizedL l) (hn : nodesL l ≤ 4096) (ht : strsL l ≤ 65536) (h : rdE l = some e) : e.wf := by
  have z : i64 0 := ⟨by decide, by decide⟩
  have z1 : i64 1 := ⟨by decide, by decide⟩
  have z3 : i64 3 := ⟨by decide, by decide⟩
  have zr : zeroR.wf := ⟨z, z, z, by decide, by decide⟩
  match l, hs, hn, ht, h with
  | [], _, _, _, h =>
    rw [rdE] at h
    obtain rfl := Option.some.inj h
    exact ⟨z, zr, by simp [zeroE], by simp [zeroE], z⟩
  | x :: f, hs, hn, ht, h =>
    rw [rdE] at h
    have hx := sized_n hs (List.mem_cons_self : x ∈ x :: f)
    split at h
    · match f, hs, ht, h with
      | [a, b, c, d, e'], hs, ht, h =>
        rw [rdRec] at h
        split at h
        · match hq : small e'.n with
          | none => rw [hq] at h; cases h
          | some v =>
            rw [hq] at h
            obtain rfl := Option.some.inj h
            have hd : d.s.size ≤ strsL [x, a, b, c, d, e'] := strs_mem (by simp)
            exact ⟨z1, ⟨sized_n hs (by simp), sized_n hs (by simp), sized_n hs (by simp), by simp only; omega, (small_some hq).2⟩, by simp, by simp, z⟩
        · cases h
      | [], _, _, h => cases h
      | [_], _, _, h => cases h
      | [_, _], _, _, h => cases h
      | [_, _, _], _, _, h => cases h
      | [_, _, _, _], _, _, h => cases h
      | _ :: _ :: _ :: _ :: _ :: _ :: _, _, _, h => cases h
    · split at h
      · match f, hs, hn, h with
        | [a], hs, hn, h =>
          rw [rdGraph] at h
          split at h
          · match hq : rdOps a.kids with
            | none => rw [hq] at h; cases h
            | some m =>
              rw [hq] at h
              obtain rfl := Option.some.inj h
              have h1 := nodes_mem (show a ∈ [x, a] by simp)
              have h2 := nodes_kids a
              have h3 := rdOps_wf (sized_kids (sizedL_mem hs (show a ∈ [x, a] by simp))) (by omega) hq
              have h4 := @len_le_nodes a.kids
              exact ⟨z3, zr, h3.1, by simp only; omega, z⟩
          · cases h
        | [], _, _, h => cases h
        | _ :: _ :: _, _, _, h => cases h
      · split at h
        · match f, hs, h with
          | [a], hs, h =>
            rw [rdNum] at h
            split at h
            · obtain rfl := Option.some.inj h
              exact ⟨hx, zr, by simp, by simp, sized_n hs (by simp)⟩
            · cases h
          | [], _, h => cases h
          | _ :: _ :: _, _, h => cases h
        · cases h

theorem dec_short {bs : List Nat} {l : List Item} (hb : ∀ x ∈ bs, x < 256) (h : decN bs = .ok l) : strsL l ≤ 65536 := by
  have hd := dec_back hb h
  have h1 := strsL_le l
  have h2 : (encN l).1 = bytesL l ∧ (bytesL l).length ≤ 65536 := by
    have h0 : (encN l).2 = 0 := by rw [hd.1]
    unfold encN at h0 ⊢
    split at h0
    · rename_i hc; exact absurd h0 hc
    · rename_i hc
      rw [if_neg hc]
      split at h0
      · cases h0
      · rename_i hl
        rw [if_neg hl]
        exact ⟨rfl, by omega⟩
  omega
theorem dec_wf {bs : List Nat} {l : List Item} {e : Ent} (hb : ∀ x ∈ bs, x < 256) (h : decN bs = .ok l) (hr : rdE l = some e) : e.wf := by
  have hd := dec_back hb h
  exact rdE_wf hd.2.1 hd.2.2 (dec_short hb h) hr

end Go.Proofs.Ytffehnojcajhiaa.Wire.Entry
