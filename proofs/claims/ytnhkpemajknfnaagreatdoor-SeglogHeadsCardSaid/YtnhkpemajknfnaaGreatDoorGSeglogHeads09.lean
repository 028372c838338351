/-
  Put together out of texts of one chain: what they hold stands ahead of each.
-/
import Derived.Test.YtnhkpemajknfnaaGreatDoorGSeglogHeads20
import Derived.Test.YtnhkpemajknfnaaGreatDoorFrm
import Derived.Test.YtnhkpemajknfnaaGreatDoorLaw
import Derived.Test.YtnhkpemajknfnaaGreatDoorProg
import Derived.Shelf.Strconv.Itoa3
import Derived.Test.YtnhkpemajknfnaaGreatDoorGSeglogHeads03
import Derived.Lib.AppendIntMem
/-
  A log in memory: its block, the row of its segments, the rows of their entries.
-/
namespace Go.Proofs.YtnhkpemajknfnaaGreatDoor.Seglog
open Go Go.RowKit Go.Lib Go.Proofs.YtnhkpemajknfnaaGreatDoor.Law Go.Proofs.YtnhkpemajknfnaaGreatDoor.Disk

/-- A text of bytes. -/
def txt (bs : List Nat) : ByteArray := ⟨(bs.map UInt8.ofNat).toArray⟩
/-- Entries as cells. -/
def flatE : List En → List Value
  | [] => []
  | e :: r => .string (txt e.bs) :: .int .i64 (e.fin : Nat) :: flatE r
theorem flatE_length : ∀ l : List En, (flatE l).length = l.length * 2
  | [] => rfl
  | e :: r => by simp only [flatE, List.length_cons, flatE_length r]; omega
theorem flatE_append : ∀ a b : List En, flatE (a ++ b) = flatE a ++ flatE b
  | [], b => by simp [flatE]
  | x :: a, b => by simp only [List.cons_append, flatE, flatE_append a b]
theorem flatE_one : ∀ l : List En, ∀ u ∈ flatE l, u.oneCell' = true
  | [], u, h => by simp [flatE] at h
  | e :: r, u, h => by
    simp only [flatE, List.mem_cons] at h
    rcases h with rfl | rfl | h
    · rfl
    · rfl
    · exact flatE_one r u h
theorem flatE_at : ∀ (l : List En) (i : Nat) (h : i < l.length), (flatE l)[i * 2]? = some (.string (txt l[i].bs)) ∧ (flatE l)[i * 2 + 1]? = some (.int .i64 (l[i].fin : Nat))
  | [], i, h => absurd h (Nat.not_lt_zero _)
  | e :: r, 0, _ => ⟨rfl, rfl⟩
  | e :: r, i + 1, h => by
    have := flatE_at r i (by simpa using h)
    rw [show (i + 1) * 2 = i * 2 + 2 by omega]
    simpa [flatE] using this
/-- A row of entries. -/
def EntsAt (W : World) (base : Nat) (v : Value) (es : List En) : Prop := Seg W base 88 2 v es.length (flatE es)

/-- A segment with its slice of entries. -/
abbrev SV := Sg × Value
def flatS : List SV → List Value
  | [] => []
  | p :: r => .int .i64 (p.1.base : Nat) :: p.2 :: flatS r
theorem flatS_length : ∀ l : List SV, (flatS l).length = l.length * 2
  | [] => rfl
  | e :: r => by simp only [flatS, List.length_cons, flatS_length r]; omega
theorem flatS_append : ∀ a b : List SV, flatS (a ++ b) = flatS a ++ flatS b
  | [], b => by simp [flatS]
  | x :: a, b => by simp only [List.cons_append, flatS, flatS_append a b]
theorem flatS_one : ∀ l : List SV, (∀ p ∈ l, p.2.oneCell' = true) → ∀ u ∈ flatS l, u.oneCell' = true
  | [], _, u, h => by simp [flatS] at h
  | e :: r, hl, u, h => by
    simp only [flatS, List.mem_cons] at h
    rcases h with rfl | rfl | h
    · rfl
    · exact hl e (by simp)
    · exact flatS_one r (fun q hq => hl q (by simp [hq])) u h
theorem flatS_at : ∀ (l : List SV) (i : Nat) (h : i < l.length), (flatS l)[i * 2]? = some (.int .i64 (l[i].1.base : Nat)) ∧ (flatS l)[i * 2 + 1]? = some l[i].2
  | [], i, h => absurd h (Nat.not_lt_zero _)
  | e :: r, 0, _ => ⟨rfl, rfl⟩
  | e :: r, i + 1, h => by
    have := flatS_at r i (by simpa using h)
    rw [show (i + 1) * 2 = i * 2 + 2 by omega]
    simpa [flatS] using this
/-- A row of segments. -/
def SegsAt (W : World) (base : Nat) (v : Value) (l : List SV) : Prop := Seg W base 84 2 v l.length (flatS l) ∧ ∀ p ∈ l, EntsAt W base p.2 p.1.es
theorem SegsAt.nil (W : World) (base : Nat) : SegsAt W base (.slice none 0 0) [] := ⟨Seg.nil _ _ _ _, by simp⟩
theorem EntsAt.nil (W : World) (base : Nat) : EntsAt W base (.slice none 0 0) [] := Seg.nil _ _ _ _
theorem rowForm {W : World} {base size n : Nat} {e : TypeId} {v : Value} {xs : List Value} (h : Seg W base e size v n xs) : ∃ A c, v = .slice A n c := by
  obtain ⟨A, c, h1, _⟩ := h.form
  exact ⟨A, c, h1⟩
theorem rowCell {W : World} {base size n cap : Nat} {e : TypeId} {A : Option Addr} {xs : List Value} (h : Seg W base e size (.slice A n cap) n xs) {j : Nat} {u : Value} (hj : xs[j]? = some u) : n ≤ cap ∧ ∃ g o, A = some ⟨g, o, none⟩ ∧ g < W.heap.size ∧ W.cell? ⟨g, o + j, none⟩ = some u := by
  have hlt : j < n * size := by
    have := (List.getElem?_eq_some_iff.1 hj).1
    have := h.1
    omega
  have hn : 0 < n := by
    rcases Nat.eq_zero_or_pos n with h0 | h0
    · rw [h0, Nat.zero_mul] at hlt; omega
    · exact h0
  obtain ⟨g, o, cur, rfl, _, hg, hc, _⟩ := h.at hn
  exact ⟨hc, g, o, rfl, (Array.getElem?_eq_some_iff.1 hg).1, (h.cell hj).1⟩
theorem EntsAt.cell {W : World} {base n cap : Nat} {A : Option Addr} {es : List En} (h : EntsAt W base (.slice A n cap) es) (hn : es.length = n) {i : Nat} (hi : i < es.length) :
    n ≤ cap ∧ ∃ g o, A = some ⟨g, o, none⟩ ∧ g < W.heap.size ∧ W.cell? ⟨g, o + i * 2, none⟩ = some (.string (txt es[i].bs)) ∧ W.cell? ⟨g, o + i * 2 + 1, none⟩ = some (.int .i64 (es[i].fin : Nat)) := by
  subst hn
  obtain ⟨h1, h2⟩ := flatE_at es i hi
  obtain ⟨hc, g, o, rfl, hg, c0⟩ := rowCell h h1
  obtain ⟨_, g', o', hA, _, c1⟩ := rowCell h h2
  simp only [Option.some.injEq, Addr.mk.injEq, and_true] at hA
  obtain ⟨rfl, rfl⟩ := hA
  exact ⟨hc, g, o, rfl, hg, c0, c1⟩
theorem SegsAt.cell {W : World} {base n cap : Nat} {A : Option Addr} {l : List SV} (h : SegsAt W base (.slice A n cap) l) (hn : l.length = n) {i : Nat} (hi : i < l.length) :
    n ≤ cap ∧ ∃ g o, A = some ⟨g, o, none⟩ ∧ g < W.heap.size ∧ W.cell? ⟨g, o + i * 2, none⟩ = some (.int .i64 (l[i].1.base : Nat)) ∧ W.cell? ⟨g, o + i * 2 + 1, none⟩ = some l[i].2 := by
  subst hn
  obtain ⟨h1, h2⟩ := flatS_at l i hi
  obtain ⟨hc, g, o, rfl, hg, c0⟩ := rowCell h.1 h1
  obtain ⟨_, g', o', hA, _, c1⟩ := rowCell h.1 h2
  simp only [Option.some.injEq, Addr.mk.injEq, and_true] at hA
  obtain ⟨rfl, rfl⟩ := hA
  exact ⟨hc, g, o, rfl, hg, c0, c1⟩

/-- A log's block. -/
def LB (W : World) (lb db : Nat) (p : ByteArray) (room : Nat) (v : Value) (bk : Bool) : Prop :=
  W.heap[lb]? = some (.cells #[.pointer (some ⟨db, 0, none⟩), .string p, .int .i64 (room : Nat), v, .bool bk] 81 (0, 0))
theorem LB.cells {W : World} {lb db room : Nat} {p : ByteArray} {v : Value} {bk : Bool} (h : LB W lb db p room v bk) :
    (W.cell? ⟨lb, 0, none⟩ = some (.pointer (some ⟨db, 0, none⟩)) ∧ W.cell? ⟨lb, 1, none⟩ = some (.string p) ∧ W.cell? ⟨lb, 2, none⟩ = some (.int .i64 (room : Nat)) ∧ W.cell? ⟨lb, 3, none⟩ = some v ∧ W.cell? ⟨lb, 4, none⟩ = some (.bool bk)) ∧ ∀ i, W.frozen? ⟨lb, i, none⟩ = false := by
  unfold LB at h
  refine ⟨⟨?_, ?_, ?_, ?_, ?_⟩, fun i => ?_⟩ <;> simp [World.cell?, World.frozen?, h]
theorem LB.lt {W : World} {lb db room : Nat} {p : ByteArray} {v : Value} {bk : Bool} (h : LB W lb db p room v bk) : lb < W.heap.size := (Array.getElem?_eq_some_iff.1 h).1
theorem LB.below {W W' : World} {lb db room : Nat} {p : ByteArray} {v : Value} {bk : Bool} (h : LB W lb db p room v bk) (hB : Below W.heap.size W W') : LB W' lb db p room v bk := (hB.block lb h.lt).trans h

/-- A log in memory, all of it in the blocks R. -/
structure LogIn (R : Nat → Prop) (base lb db : Nat) (p : ByteArray) (room : Nat) (bk : Bool) (W : World) (v : Value) (l : List SV) : Prop where
  le : base ≤ lb
  block : LB W lb db p room v bk
  segs : SegsAt W base v l
  rl : R lb
  rv : ∀ g, v.ownBlock = some g → R g
  re : ∀ q ∈ l, ∀ g, q.2.ownBlock = some g → R g
  lt : ∀ k, R k → k < W.heap.size
theorem LogIn.keep {R : Nat → Prop} {base lb db room : Nat} {p : ByteArray} {bk : Bool} {W W' : World} {v : Value} {l : List SV} (h : LogIn R base lb db p room bk W v l) (hR : ∀ k, R k → W'.heap[k]? = W.heap[k]?) (hs : W.heap.size ≤ W'.heap.size) : LogIn R base lb db p room bk W' v l := by
  exact ⟨h.le, (hR lb h.rl).trans h.block, ⟨h.segs.1.keep fun g hg => hR g (h.rv g hg), fun q hq => (h.segs.2 q hq).keep fun g hg => hR g (h.re q hq g hg)⟩, h.rl, h.rv, h.re, fun k hk => Nat.lt_of_lt_of_le (h.lt k hk) hs⟩

end Go.Proofs.YtnhkpemajknfnaaGreatDoor.Seglog

/-
  Contracts of the shelf at this program: the tables of numbers, and each body as the contract's own. No conditions.
-/
namespace Go.Proofs
open Go.Shelf
def Tryz.itoa_ren : Go.Shelf.Ren := ⟨fun | 171 => 71 | 243 => 87 | 246 => 106 | 283 => 123 | 284 => 124 | 285 => 125 | 286 => 126 | 129 => 104 | 317 => 140 | 318 => 141 | 319 => 142 | 320 => 143 | 337 => 149 | 338 => 150 | n => n, fun | 3 => 3 | 9 => 9 | 2 => 2 | 4 => 4 | 171 => 169 | 0 => 0 | 53 => 56 | 37 => 29 | 5 => 5 | 173 => 171 | 212 => 184 | 51 => 115 | 20 => 20 | 213 => 185 | 46 => 136 | 232 => 190 | 233 => 191 | n => n, fun | 17 => 1 | 18 => 2 | 19 => 3 | n => n⟩
theorem Tryz.itoa : Go.Proofs.LaysM.n171 Tryz.prog Tryz.itoa_ren := {
  mixed := by kernel_rfl
  f129 := Tryz.func104.trans (congrArg some (by kernel_rfl))
  f171 := Tryz.func71.trans (congrArg some (by kernel_rfl))
  f243 := Tryz.func87.trans (congrArg some (by kernel_rfl))
  f246 := Tryz.func106.trans (congrArg some (by kernel_rfl))
  f283 := Tryz.func123.trans (congrArg some (by kernel_rfl))
  f284 := Tryz.func124.trans (congrArg some (by kernel_rfl))
  f285 := Tryz.func125.trans (congrArg some (by kernel_rfl))
  f286 := Tryz.func126.trans (congrArg some (by kernel_rfl))
  f317 := Tryz.func140.trans (congrArg some (by kernel_rfl))
  f318 := Tryz.func141.trans (congrArg some (by kernel_rfl))
  f319 := Tryz.func142.trans (congrArg some (by kernel_rfl))
  f320 := Tryz.func143.trans (congrArg some (by kernel_rfl))
  f337 := Tryz.func149.trans (congrArg some (by kernel_rfl))
  f338 := Tryz.func150.trans (congrArg some (by kernel_rfl))
  t0 := Tryz.underlying0
  a0 := Tryz.isAgg0
  z0 := Tryz.sizeOf0
  v0 := Tryz.zeroValue0
  t2 := Tryz.underlying2
  a2 := Tryz.isAgg2
  z2 := Tryz.sizeOf2
  v2 := Tryz.zeroValue2
  t3 := Tryz.underlying3
  a3 := Tryz.isAgg3
  z3 := Tryz.sizeOf3
  v3 := Tryz.zeroValue3
  t4 := Tryz.underlying4
  a4 := Tryz.isAgg4
  z4 := Tryz.sizeOf4
  v4 := Tryz.zeroValue4
  t5 := Tryz.underlying5
  a5 := Tryz.isAgg5
  z5 := Tryz.sizeOf5
  v5 := Tryz.zeroValue5
  t9 := Tryz.underlying9
  a9 := Tryz.isAgg9
  z9 := Tryz.sizeOf9
  v9 := Tryz.zeroValue9
  t20 := Tryz.underlying20
  a20 := Tryz.isAgg20
  z20 := Tryz.sizeOf20
  v20 := Tryz.zeroValue20
  t37 := Tryz.underlying29
  a37 := Tryz.isAgg29
  z37 := Tryz.sizeOf29
  v37 := Tryz.zeroValue29
  t46 := Tryz.underlying136
  a46 := Tryz.isAgg136
  z46 := Tryz.sizeOf136
  v46 := Tryz.zeroValue136
  t51 := Tryz.underlying115
  a51 := Tryz.isAgg115
  z51 := Tryz.sizeOf115
  v51 := Tryz.zeroValue115
  t53 := Tryz.underlying56
  a53 := Tryz.isAgg56
  z53 := Tryz.sizeOf56
  v53 := Tryz.zeroValue56
  t171 := Tryz.underlying169
  a171 := Tryz.isAgg169
  z171 := Tryz.sizeOf169
  v171 := Tryz.zeroValue169
  t173 := Tryz.underlying171
  a173 := Tryz.isAgg171
  z173 := Tryz.sizeOf171
  v173 := Tryz.zeroValue171
  t212 := Tryz.underlying184
  a212 := Tryz.isAgg184
  z212 := Tryz.sizeOf184
  v212 := Tryz.zeroValue184
  t213 := Tryz.underlying185
  a213 := Tryz.isAgg185
  z213 := Tryz.sizeOf185
  t232 := Tryz.underlying190
  a232 := Tryz.isAgg190
  z232 := Tryz.sizeOf190
  v232 := Tryz.zeroValue190
  t233 := Tryz.underlying191
  a233 := Tryz.isAgg191
  z233 := Tryz.sizeOf191
  v233 := Tryz.zeroValue191
  g17 := by kernel_rfl
  g18 := by kernel_rfl
  g19 := by kernel_rfl
  i0 := by kernel_rfl
  i2 := by kernel_rfl
  i3 := by kernel_rfl
  i4 := by kernel_rfl
  i5 := by kernel_rfl
  i9 := by kernel_rfl
  i20 := by kernel_rfl
  i37 := by kernel_rfl
  i46 := by kernel_rfl
  i51 := by kernel_rfl
  i53 := by kernel_rfl
  i171 := by kernel_rfl
  i173 := by kernel_rfl
  i212 := by kernel_rfl
  i232 := by kernel_rfl
  i233 := by kernel_rfl
  m17 := by kernel_rfl
  m18 := by kernel_rfl
  m19 := by kernel_rfl }
end Go.Proofs

/-
  Contracts of the log's leaves: rightName, a segment's next and size, the log's First and Next, a segment's file.
-/
namespace Go.Proofs.YtnhkpemajknfnaaGreatDoor.Seglog
open Go Go.RowKit Go.Lib Go.Proofs.YtnhkpemajknfnaaGreatDoor.Law Go.Proofs.YtnhkpemajknfnaaGreatDoor.Disk

def low (x : Nat) : Bool := decide (97 ≤ x ∧ x ≤ 122)
/-- Is a log's name right? -/
def rightS (s : ByteArray) : Bool := decide (1 ≤ s.size ∧ s.size ≤ 12) && (bytesS s).all low

set_option maxRecDepth 100000 in
set_option maxHeartbeats 2000000 in
theorem rightName_calls (s : ByteArray) (w : World) (hs63 : s.size ≤ 9223372036854775807) : Calls Tryz.prog 34 #[.string s] w (BoolB w (rightS s)) := by
  obtain ⟨r, hr⟩ : ∃ r, rightS s = r := ⟨_, rfl⟩
  rw [hr]
  have HR := Lib.hid hr
  clear hr
  by_cases h0 : s.size = 0
  · have hd : s.data = #[] := Array.eq_empty_of_size_eq_zero h0
    have hse : s = ⟨#[]⟩ := by cases s; simp only at hd; rw [hd]
    subst hse
    have hrr : r = false := by rw [← HR.out]; rfl
    subst hrr
    clear HR hd h0
    go_enter Tryz.func34, Tryz.ntmps34
    go_wp2
    go_ret
    exact ⟨rfl, Below.refl _ _⟩
  · have hem : s.toList.isEmpty = false := by
      rw [Lib.toList_data]
      cases hq : s.data.toList with
      | nil => exact absurd (by have : s.data.toList.length = 0 := by rw [hq]; rfl
                                rwa [Array.length_toList] at this) h0
      | cons a l => rfl
    by_cases h32 : 12 < s.size
    · have hrr : r = false := by rw [← HR.out, rightS, decide_eq_false (by omega)]; rfl
      subst hrr
      have h32I : 12 < (s.size : Int) := by omega
      clear HR
      go_enter Tryz.func34, Tryz.ntmps34
      go_wp2_with fail
      go_ret
      exact ⟨rfl, Below.refl _ _⟩
    · have hrr : (bytesS s).all low = r := by rw [← HR.out, rightS, decide_eq_true (by omega)]; rfl
      have HRR := Lib.hid hrr
      have h32I : (s.size : Int) ≤ 12 := by omega
      have hB : Below w.heap.size w (Lib.bytesWorld w 5 s) := ⟨rfl, rfl, rfl, by rw [Lib.bytesWorld_size]; omega, fun k hk => Lib.bytesWorld_at_old w _ s k hk⟩
      have HB := Lib.hid hB
      have hcv := Lib.run_convert_string_bytes (P := Tryz.prog) w 9 29 5 s Tryz.underlying9 Tryz.underlying29 Tryz.underlying5
      have HCV := Lib.hid hcv
      have hbl := bytesS_length s
      have HBL := Lib.hid hbl
      clear HR hrr hB hcv hbl
      go_enter Tryz.func34, Tryz.ntmps34
      go_wp2_with (refine wpList_exec_ran (o := ⟨some 13, _, _, _, _, _⟩) rfl (run_conv (HCV.out)) ?_)
      go_loopw [15] (fun i wr => ∃ k : Nat, i = .int .i64 k ∧ k ≤ s.size ∧ ((bytesS s).drop k).all low = r ∧ Lib.bytesWorld w 5 s = wr) (fun i _ => s.size - (Lib.intOf i).toNat)
      case atStart => exact ⟨0, rfl, Nat.zero_le _, by rw [List.drop_zero]; exact HRR.out, rfl⟩
      case round =>
        obtain ⟨k, rfl, hk, hall, rfl⟩ := hrel
        by_cases hlt : k < s.size
        · have hcell := Lib.bytesWorld_cell w 5 s k hlt
          rw [bytesS_get] at hcell
          obtain ⟨x, hx⟩ : ∃ x, (bytesS s)[k]? = some x := ⟨_, List.getElem?_eq_getElem (by rw [HBL.out]; exact hlt)⟩
          have hxd : (bytesS s).getD k 0 = x := by simp [List.getD, hx]
          have hx256 : x < 256 := bytesS_lt s x (List.mem_of_getElem? hx)
          rw [hxd] at hcell
          have hd : (bytesS s).drop k = x :: (bytesS s).drop (k + 1) := by
            obtain ⟨h1, h2⟩ := List.getElem?_eq_some_iff.1 hx
            rw [List.drop_eq_getElem_cons h1, h2]
          rw [hd, List.all_cons] at hall
          have HALL := Lib.hid hall
          clear hall hd hxd hx
          rcases (show (x < 97) ∨ (97 ≤ x ∧ x ≤ 122) ∨ (123 ≤ x) by omega) with hx | hx | hx
          · have i0 : (x : Int) < 97 := by omega
            have hok : low x = false := by unfold low; simp; omega
            have hrr : r = false := by have h := HALL.out; rw [hok, Bool.false_and] at h; exact h.symm
            subst hrr
            clear hok hx HALL
            go_wp2_with fail
            go_ret
            exact ⟨rfl, HB.out⟩
          · have i0 : ¬ (x : Int) < 97 := by omega
            have i1 : ¬ 122 < (x : Int) := by omega
            have hok : low x = true := by unfold low; simp; omega
            have hrest : ((bytesS s).drop (k + 1)).all low = r := by have h := HALL.out; rw [hok, Bool.true_and] at h; exact h
            have HREST := Lib.hid hrest
            clear hrest hok hx HALL
            go_wp2_with fail
            go_roundw
            case rel => exact ⟨k + 1, by go_num, by omega, HREST.out, trivial⟩
            case measure => simp [Lib.intOf]; omega
          · have i0 : ¬ (x : Int) < 97 := by omega
            have i1 : 122 < (x : Int) := by omega
            have hok : low x = false := by unfold low; simp; omega
            have hrr : r = false := by have h := HALL.out; rw [hok, Bool.false_and] at h; exact h.symm
            subst hrr
            clear hok hx HALL
            go_wp2_with fail
            go_ret
            exact ⟨rfl, HB.out⟩
        · obtain rfl : k = s.size := by omega
          have hr : r = true := by
            rw [← hall, List.drop_of_length_le (by rw [HBL.out]; omega)]; rfl
          subst hr
          clear hall
          go_wp2_with fail
          go_ret
          exact ⟨rfl, HB.out⟩

/-- A segment as a value. -/
abbrev segV (b : Nat) (A : Option Addr) (n c : Nat) : Value := .agg #[.int .i64 (b : Nat), .slice A n c]

set_option maxRecDepth 100000 in
set_option maxHeartbeats 1000000 in
theorem next_calls (b : Nat) (A : Option Addr) (n c : Nat) (hb : b + n ≤ 9223372036854775807) (w : World) :
    Calls Tryz.prog 38 #[segV b A n c] w fun e W => e = .returned (.int .i64 ((b + n : Nat) : Int)) ∧ Below w.heap.size w W := by
  have hw : IntKind.i64.wrap ((b : Int) + (n : Int)) = (b : Int) + (n : Int) := IntWalk.i64_in _ (by omega)
  have HB : Hid (∀ o, Below w.heap.size w (w.alloc o)) := Lib.hid fun o => (Below.refl _ _).alloc (Nat.le_refl _) o
  have he : ((b + n : Nat) : Int) = (b : Int) + (n : Int) := by omega
  rw [he]
  clear he hb
  go_enter Tryz.func38, Tryz.ntmps38
  go_wp2_with fail
  go_ret
  first | exact ⟨rfl, HB.out _⟩ | exact ⟨rfl, Below.refl _ _⟩

set_option maxRecDepth 100000 in
set_option maxHeartbeats 1000000 in
theorem size_calls (b : Nat) (A : Option Addr) (n c base : Nat) (es : List En) (w : World) (hn : es.length = n) (h : EntsAt w base (.slice A n c) es) (hl : n ≤ 4294967296) :
    Calls Tryz.prog 45 #[segV b A n c] w fun e W => e = .returned (.int .i64 ((⟨b, es⟩ : Sg).size : Nat)) ∧ Below w.heap.size w W := by
  rcases Nat.eq_zero_or_pos n with h0 | h0
  · subst h0
    obtain rfl := List.eq_nil_of_length_eq_zero hn
    have HB : Hid (∀ o, Below w.heap.size w (w.alloc o)) := Lib.hid fun o => (Below.refl _ _).alloc (Nat.le_refl _) o
    rw [show ((⟨b, []⟩ : Sg).size : Int) = 0 from rfl]
    clear h hn hl
    go_enter Tryz.func45, Tryz.ntmps45
    go_wp2_with fail
    go_ret
    first | exact ⟨rfl, HB.out _⟩ | exact ⟨rfl, Below.refl _ _⟩
  · obtain ⟨m, hm⟩ : ∃ m, m + 1 = n := ⟨n - 1, by omega⟩
    have hmL : m < es.length := by omega
    obtain ⟨hc, g, o, rfl, hg, c0, c1⟩ := h.cell hn hmL
    have hsz : (⟨b, es⟩ : Sg).size = es[m].fin := by
      rw [Sg.size, List.getLast?_eq_getElem?, show es.length - 1 = m by omega, List.getElem?_eq_getElem hmL]; rfl
    rw [hsz]
    have HB : Hid (∀ o, Below w.heap.size w (w.alloc o)) := Lib.hid fun o => (Below.refl _ _).alloc (Nat.le_refl _) o
    have hw : IntKind.i64.wrap ((n : Int) - 1) = (m : Int) := by rw [IntWalk.i64_in _ (by omega)]; omega
    have hn0 : ((n : Int) == 0) = false := by simp; omega
    have hn0' : ¬ (n : Int) = 0 := by omega
    have hmn : (m : Int) < (n : Int) := by omega
    have hm0 : 0 ≤ (m : Int) := by omega
    have hncI : (n : Int) ≤ (c : Int) := by omega
    have hlI : (n : Int) ≤ 4294967296 := by omega
    obtain ⟨fin, hf⟩ : ∃ f, es[m].fin = f := ⟨_, rfl⟩
    rw [hf] at c1 ⊢
    clear h hn hsz hf c0 hmL hm h0
    go_enter Tryz.func45, Tryz.ntmps45
    go_wp2_with fail
    go_ret
    first | exact ⟨rfl, HB.out _⟩ | exact ⟨rfl, Below.refl _ _⟩

set_option maxRecDepth 100000 in
set_option maxHeartbeats 1000000 in
theorem first_nil (w : World) : Calls Tryz.prog 13 #[.pointer none] w fun e W => e = .returned (.int .i64 0) ∧ W = w := by
  go_enter Tryz.func13, Tryz.ntmps13
  go_wp2_with fail
  go_ret
  exact ⟨rfl, rfl⟩

set_option maxRecDepth 100000 in
set_option maxHeartbeats 1000000 in
theorem first_calls {R : Nat → Prop} {base lb db room : Nat} {p : ByteArray} {bk : Bool} {w : World} {v : Value} {l : List SV} (h : LogIn R base lb db p room bk w v l) (hl : l.length ≤ 4294967296) :
    Calls Tryz.prog 13 #[.pointer (some ⟨lb, 0, none⟩)] w fun e W => e = .returned (.int .i64 (firstL (l.map (·.1)) : Nat)) ∧ W = w := by
  obtain ⟨⟨_, _, _, c3, _⟩, _⟩ := h.block.cells
  obtain ⟨A, cap, rfl⟩ := rowForm h.segs.1
  cases l with
  | nil =>
    rw [show ((firstL (List.map (fun x : SV => x.1) []) : Nat) : Int) = 0 from rfl]
    rw [show ([] : List SV).length = 0 from rfl] at c3
    clear h hl
    go_enter Tryz.func13, Tryz.ntmps13
    go_wp2_with fail
    go_ret
    exact ⟨rfl, rfl⟩
  | cons s r =>
    obtain ⟨hc, g, o, rfl, hg, d0, _⟩ := h.segs.cell (i := 0) rfl (by simp)
    rw [show firstL (List.map (fun x : SV => x.1) (s :: r)) = s.1.base from rfl]
    rw [List.getElem_cons_zero, show o + 0 * 2 = o by omega] at d0
    obtain ⟨N, hN⟩ : ∃ N, (s :: r).length = N := ⟨_, rfl⟩
    obtain ⟨B, hB⟩ : ∃ B, s.1.base = B := ⟨_, rfl⟩
    rw [hN] at c3 hc hl
    rw [hB] at d0 ⊢
    have hN0 : ¬ (N : Int) = 0 := by simp at hN; omega
    have hN0I : 0 < (N : Int) := by omega
    have hncI : (N : Int) ≤ (cap : Int) := by omega
    have hlI : (N : Int) ≤ 4294967296 := by omega
    clear h hB hN
    go_enter Tryz.func13, Tryz.ntmps13
    go_wp2_with fail
    go_ret
    exact ⟨rfl, rfl⟩

set_option maxRecDepth 100000 in
set_option maxHeartbeats 1000000 in
theorem nxt_nil (w : World) : Calls Tryz.prog 16 #[.pointer none] w fun e W => e = .returned (.int .i64 0) ∧ W = w := by
  go_enter Tryz.func16, Tryz.ntmps16
  go_wp2_with fail
  go_ret
  exact ⟨rfl, rfl⟩

set_option maxRecDepth 100000 in
set_option maxHeartbeats 1000000 in
theorem nxt_calls {R : Nat → Prop} {base lb db room : Nat} {p : ByteArray} {bk : Bool} {w : World} {v : Value} {l : List SV} (h : LogIn R base lb db p room bk w v l) (hl : l.length ≤ 4294967296)
    (hb : ∀ q ∈ l, q.1.next ≤ 9223372036854775807) :
    Calls Tryz.prog 16 #[.pointer (some ⟨lb, 0, none⟩)] w fun e W => e = .returned (.int .i64 (nextL (l.map (·.1)) : Nat)) ∧ Below w.heap.size w W := by
  obtain ⟨⟨_, _, _, c3, _⟩, _⟩ := h.block.cells
  obtain ⟨A, cap, rfl⟩ := rowForm h.segs.1
  rcases Nat.eq_zero_or_pos l.length with h0 | h0
  · obtain rfl := List.eq_nil_of_length_eq_zero h0
    rw [show ((nextL (List.map (fun x : SV => x.1) []) : Nat) : Int) = 0 from rfl]
    rw [show ([] : List SV).length = 0 from rfl] at c3
    clear h hl hb h0
    go_enter Tryz.func16, Tryz.ntmps16
    go_wp2_with fail
    go_ret
    exact ⟨rfl, Below.refl _ _⟩
  · obtain ⟨N, hN⟩ : ∃ N, l.length = N := ⟨_, rfl⟩
    obtain ⟨m, hm⟩ : ∃ m, m + 1 = N := ⟨N - 1, by omega⟩
    have hmL : m < l.length := by omega
    obtain ⟨hc, g, o, rfl, hg, d0, d1⟩ := h.segs.cell (i := m) rfl hmL
    have hsz : nextL (l.map (·.1)) = l[m].1.next := by
      rw [nextL, List.getLast?_eq_getElem?, List.length_map, show l.length - 1 = m by omega, List.getElem?_map, List.getElem?_eq_getElem hmL]; rfl
    have hmem : l[m] ∈ l := List.getElem_mem _
    have hes := h.segs.2 l[m] hmem
    obtain ⟨A1, c1, hv1⟩ := rowForm hes
    have hCN := next_calls l[m].1.base A1 l[m].1.es.length c1 (hb _ hmem)
    rw [hsz, Sg.next]
    rw [hv1] at d1
    rw [hN] at c3 hc hl
    obtain ⟨B, hB⟩ : ∃ B, l[m].1.base = B := ⟨_, rfl⟩
    obtain ⟨M, hM⟩ : ∃ M, l[m].1.es.length = M := ⟨_, rfl⟩
    rw [hB] at d0 hCN ⊢
    rw [hM] at d1 hCN ⊢
    have CN := Lib.hid hCN
    have hw : IntKind.i64.wrap ((N : Int) - 1) = (m : Int) := by rw [IntWalk.i64_in _ (by omega)]; omega
    have hN0 : ¬ (N : Int) = 0 := by omega
    have hmn : (m : Int) < (N : Int) := by omega
    have hm0 : 0 ≤ (m : Int) := by omega
    have hncI : (N : Int) ≤ (cap : Int) := by omega
    have hlI : (N : Int) ≤ 4294967296 := by omega
    clear h hsz hmem hes hb hv1 hCN hB hM hmL hm hN h0
    go_enter Tryz.func16, Tryz.ntmps16
    go_wp2_with fail
    go_region_with (go_at_call 38; ((with_reducible refine (CN.out _).mono ?_); rintro e W2 ⟨rfl, hB⟩; have HB := Lib.hid hB; clear hB))
    all_goals
      go_wp2_with fail
      go_ret
      exact ⟨rfl, ((Below.refl w.heap.size w).drew).trans HB.out⟩

theorem itoa_txt (n : Nat) : Lib.itoa (n : Int) = Lib.decDigits n := by unfold Lib.itoa; simp
theorem below_grew {B : Nat} {a w : World} (h : Below B a w) (hB : B ≤ a.heap.size) (os : Array Obj) : Below B a (Go.Sort.grow w os) :=
  ⟨h.os, h.tape, h.output, by have := h.size; simp [Go.Sort.grow]; omega, fun k hk => by
    have := h.size
    rw [← h.block k hk]
    simp only [Go.Sort.grow]
    exact Array.getElem?_append_left (by omega)⟩
theorem below_drewN' {B : Nat} {a w : World} (h : Below B a w) (n : Nat) : Below B a (w.drewN n) := h.trans ⟨rfl, rfl, rfl, Nat.le_refl _, fun _ _ => rfl⟩

set_option maxRecDepth 100000 in
set_option maxHeartbeats 1000000 in
theorem file_calls (lb db room b : Nat) (p : ByteArray) (v u : Value) (bk : Bool) (w : World) (h : LB w lb db p room v bk) (hb : b ≤ 9223372036854775807) (hsz : p.size + (Lib.decDigits b).length ≤ 9223372036854775807)
    (htab : Lib.TabBelow Tryz.prog w.heap.size w "internal/strconv.uint64pow10" .u64 Lib.pow10Tab) :
    Calls Tryz.prog 44 #[.pointer (some ⟨lb, 0, none⟩), .agg #[.int .i64 (b : Nat), u]] w fun e W => e = .returned (.string (fileN p b)) ∧ Below w.heap.size w W := by
  have hlt := h.lt
  have c1 := h.cells.1.2.1
  have CI : Hid (∀ W0, Below w.heap.size w W0 → Calls Tryz.prog 71 #[.int .i64 (b : Nat)] W0 fun e W => e = .returned (.string ⟨(Lib.decDigits b).toArray⟩) ∧ Below w.heap.size w W ∧ W.cell? ⟨lb, 1, none⟩ = some (.string p)) := Lib.hid fun W0 h0 => by
    refine (Any.strconv_Itoa Tryz.itoa (b : Int) (by omega) (by omega) W0 (htab W0 h0)).mono ?_
    rintro e W ⟨rfl, k, os, rfl⟩
    have hBW := below_grew (below_drewN' h0 k) (Nat.le_refl _) os
    exact ⟨by rw [itoa_txt], hBW, (h.below hBW).cells.1.2.1⟩
  have HA : Hid (Below w.heap.size w ((w.alloc (.cells #[.int .i64 (b : Nat), u] 84)).drew)) := Lib.hid ((Below.refl _ _).alloc (Nat.le_refl _) _).drew
  have HF : Hid (fileN p b = p ++ ⟨(Lib.decDigits b).toArray⟩) := Lib.hid (by apply ByteArray.ext; simp [fileN])
  obtain ⟨D, hD⟩ : ∃ D : ByteArray, ⟨(Lib.decDigits b).toArray⟩ = D := ⟨_, rfl⟩
  have hsD : p.size + D.size ≤ 9223372036854775807 := by rw [← hD]; exact hsz
  rw [hD] at CI HF
  rw [HF.out]
  clear HF
  have hsD2 : ¬ (9223372036854775807 : Int) < (p.size : Int) + (D.size : Int) := by omega
  have hsD4 : ¬ IntKind.i64.max < (p.size : Int) + (D.size : Int) := hsD2
  have hsD3 : (p.size : Int) + (D.size : Int) ≤ 9223372036854775807 := by omega
  clear h hb htab hsz hD hsD
  go_enter Tryz.func44, Tryz.ntmps44
  go_wp2_with fail
  go_region_with (go_at_call 71; ((with_reducible refine (CI.out _ HA.out).mono ?_); rintro e W2 ⟨rfl, hB, q1⟩; have HB := Lib.hid hB; clear hB))
  all_goals
    go_wp2_with fail
    go_ret
    exact ⟨rfl, HB.out⟩

end Go.Proofs.YtnhkpemajknfnaaGreatDoor.Seglog

/-
  Contracts of the log's refuses, breaks, refusal.
-/
namespace Go.Proofs.YtnhkpemajknfnaaGreatDoor.Seglog
open Go Go.RowKit Go.Lib Go.Proofs.YtnhkpemajknfnaaGreatDoor.Law Go.Proofs.YtnhkpemajknfnaaGreatDoor.Disk

set_option maxRecDepth 100000 in
set_option maxHeartbeats 1000000 in
theorem refuses_nil (w : World) : Calls Tryz.prog 41 #[.pointer none] w fun e W => e = .returned (.bool true) ∧ W = w := by
  go_enter Tryz.func41, Tryz.ntmps41
  go_wp2_with fail
  go_ret
  exact ⟨rfl, rfl⟩

set_option maxRecDepth 100000 in
set_option maxHeartbeats 1000000 in
theorem refuses_calls (lb db room : Nat) (p : ByteArray) (v : Value) (bk : Bool) (w : World) (h : LB w lb db p room v bk) :
    Calls Tryz.prog 41 #[.pointer (some ⟨lb, 0, none⟩)] w fun e W => e = .returned (.bool bk) ∧ W = w := by
  obtain ⟨⟨_, _, _, _, c4⟩, _⟩ := h.cells
  clear h
  go_enter Tryz.func41, Tryz.ntmps41
  go_wp2_with fail
  go_ret
  exact ⟨rfl, rfl⟩

set_option maxRecDepth 100000 in
set_option maxHeartbeats 1000000 in
theorem breaks_calls (lb db room n : Nat) (p : ByteArray) (v : Value) (bk : Bool) (w : World) (h : LB w lb db p room v bk) :
    Calls Tryz.prog 48 #[.pointer (some ⟨lb, 0, none⟩), .int .i64 (n : Nat)] w fun e W => e = .returned (.int .i64 (n : Nat)) ∧ W = w.setCell ⟨lb, 4, none⟩ (.bool (n != 0)) := by
  obtain ⟨⟨_, _, _, _, c4⟩, hf⟩ := h.cells
  have f4 := hf 4
  clear h hf
  rcases Nat.eq_zero_or_pos n with h0 | h0
  · subst h0
    go_enter Tryz.func48, Tryz.ntmps48
    go_wp2_with fail
    go_ret
    exact ⟨rfl, rfl⟩
  · have hn : ¬ (n : Int) = 0 := by omega
    have hb : (n != 0) = true := by simp; omega
    have hb2 : ((n : Int) != 0) = true := by simp; omega
    have HB2 := Lib.hid hb2
    rw [hb]
    clear hb hb2 h0
    go_enter Tryz.func48, Tryz.ntmps48
    go_wp2_with fail
    go_ret
    exact ⟨rfl, by rw [HB2.out]⟩

theorem LB.set4 {w : World} {lb db room : Nat} {p : ByteArray} {v : Value} {bk : Bool} (h : LB w lb db p room v bk) (b : Bool) : LB (w.setCell ⟨lb, 4, none⟩ (.bool b)) lb db p room v b := by
  unfold LB at h ⊢
  rw [heap_set h]; rfl
theorem LB.set3 {w : World} {lb db room : Nat} {p : ByteArray} {v : Value} {bk : Bool} (h : LB w lb db p room v bk) (u : Value) : LB (w.setCell ⟨lb, 3, none⟩ u) lb db p room u bk := by
  unfold LB at h ⊢
  rw [heap_set h]; rfl

/-- What a cut is refused with. -/
def refusalN (bk : Bool) (l : List Sg) (a : Int) : Nat := if bk then 9 else if a < firstL l ∨ (nextL l : Int) < a then 7 else 0

set_option maxRecDepth 100000 in
set_option maxHeartbeats 1000000 in
theorem refusal_calls {R : Nat → Prop} {base lb db room : Nat} {p : ByteArray} {bk : Bool} {w : World} {v : Value} {l : List SV} (h : LogIn R base lb db p room bk w v l) (hl : l.length ≤ 4294967296)
    (hb : ∀ q ∈ l, q.1.next ≤ 9223372036854775807) (a : Int) :
    Calls Tryz.prog 50 #[.pointer (some ⟨lb, 0, none⟩), .int .i64 a] w fun e W => e = .returned (.int .i64 (refusalN bk (l.map (·.1)) a : Nat)) ∧ Below w.heap.size w W := by
  have C0 := Lib.hid (refuses_calls lb db room p v bk w h.block)
  have C1 := Lib.hid (first_calls h hl)
  have C2 := Lib.hid (nxt_calls h hl hb)
  obtain ⟨F, hF⟩ : ∃ F, firstL (l.map (·.1)) = F := ⟨_, rfl⟩
  obtain ⟨N, hN⟩ : ∃ N, nextL (l.map (·.1)) = N := ⟨_, rfl⟩
  rw [refusalN, hF, hN]
  rw [hF] at C1
  rw [hN] at C2
  clear h hl hb hF hN
  have HR : Hid (Below w.heap.size w w) := Lib.hid (Below.refl _ _)
  cases bk with
  | true =>
    rw [if_pos rfl]
    clear C1 C2
    go_enter Tryz.func50, Tryz.ntmps50
    go_wp2_with fail
    refine C0.out.mono ?_
    clear C0
    rintro e W ⟨rfl, rfl⟩
    go_wp2_with fail
    go_ret
    exact ⟨rfl, HR.out⟩
  | false =>
    rw [if_neg (by simp)]
    by_cases ha : a < (F : Int)
    · rw [if_pos (.inl ha)]
      clear C2
      go_enter Tryz.func50, Tryz.ntmps50
      go_wp2_with fail
      refine C0.out.mono ?_
      clear C0
      rintro e W ⟨rfl, rfl⟩
      go_wp2_with fail
      refine C1.out.mono ?_
      clear C1
      rintro e W ⟨rfl, rfl⟩
      go_wp2_with fail
      go_ret
      exact ⟨rfl, HR.out⟩
    · have HP : Hid ((if a < (F : Int) ∨ (N : Int) < a then 7 else 0 : Nat) = if (N : Int) < a then 7 else 0) := Lib.hid (by simp [ha])
      rw [HP.out]
      clear HP
      by_cases hn : (N : Int) < a
      · rw [if_pos hn]
        go_enter Tryz.func50, Tryz.ntmps50
        go_wp2_with fail
        refine C0.out.mono ?_
        clear C0
        rintro e W ⟨rfl, rfl⟩
        go_wp2_with fail
        refine C1.out.mono ?_
        clear C1
        rintro e W ⟨rfl, rfl⟩
        go_wp2_with fail
        refine C2.out.mono ?_
        clear C2
        rintro e W ⟨rfl, hB⟩
        have HB := Lib.hid hB
        clear hB
        go_wp2_with fail
        go_ret
        exact ⟨rfl, HB.out⟩
      · rw [if_neg hn]
        go_enter Tryz.func50, Tryz.ntmps50
        go_wp2_with fail
        refine C0.out.mono ?_
        clear C0
        rintro e W ⟨rfl, rfl⟩
        go_wp2_with fail
        refine C1.out.mono ?_
        clear C1
        rintro e W ⟨rfl, rfl⟩
        go_wp2_with fail
        refine C2.out.mono ?_
        clear C2
        rintro e W ⟨rfl, hB⟩
        have HB := Lib.hid hB
        clear hB
        go_wp2_with fail
        go_ret
        exact ⟨rfl, HB.out⟩

end Go.Proofs.YtnhkpemajknfnaaGreatDoor.Seglog

/-
  Contracts of a segment's until.
-/
namespace Go.Proofs.YtnhkpemajknfnaaGreatDoor.Seglog
open Go Go.RowKit Go.Lib Go.Proofs.YtnhkpemajknfnaaGreatDoor.Law Go.Proofs.YtnhkpemajknfnaaGreatDoor.Disk

theorem flatE_take : ∀ (es : List En) (k : Nat), (flatE es).take (k * 2) = flatE (es.take k)
  | [], k => by simp [flatE]
  | e :: r, 0 => by simp [flatE]
  | e :: r, k + 1 => by
    rw [show (k + 1) * 2 = k * 2 + 1 + 1 by omega, List.take_succ_cons]
    simp only [flatE, List.take_succ_cons, flatE_take r k]
/-- Ahead of a place, with no room behind. -/
theorem EntsAt.cut {W : World} {base n c g o : Nat} {es : List En} (h : EntsAt W base (.slice (some ⟨g, o, none⟩) n c) es) (k : Nat) (hk : k ≤ es.length) : EntsAt W base (.slice (some ⟨g, o, none⟩) k k) (es.take k) := by
  rcases h.2 with ⟨hv, _⟩ | ⟨g', o', cap, cur, hv, h1, h2, h3, h4, h5, h6⟩
  · cases hv
  · simp only [Value.slice.injEq, Option.some.injEq, Addr.mk.injEq, and_true] at hv
    obtain ⟨⟨rfl, rfl⟩, rfl, rfl⟩ := hv
    have hlen : (es.take k).length = k := by rw [List.length_take]; omega
    refine ⟨by rw [flatE_length], .inr ⟨g, o, k, cur, by rw [hlen], h1, h2, by omega, by omega, by omega, ?_⟩⟩
    rw [hlen, ← flatE_take, ← h6, List.take_take, show min (k * 2) (es.length * 2) = k * 2 by omega]

/-- What a second new block of two cells holds. -/
theorem seg_new (w : World) (X : Obj) (x y : Value) (t : TypeId) : ((w.alloc X).alloc (.cells #[x, y] t)).cell? ⟨w.heap.size + 1, 0, none⟩ = some x ∧ ((w.alloc X).alloc (.cells #[x, y] t)).cell? ⟨w.heap.size + 1, 1, none⟩ = some y := by
  have h := heap_alloc_new (w.alloc X) (.cells #[x, y] t)
  rw [World.size_alloc] at h
  obtain ⟨q0, q1, _, _⟩ := two2 h
  exact ⟨q0, q1⟩

set_option maxRecDepth 100000 in
set_option maxHeartbeats 1000000 in
theorem until_calls (b k g o n c : Nat) (w : World) (hk : k ≤ n) (hc : n ≤ c) (hb : b + n ≤ 9223372036854775807) (hl : c ≤ 9223372036854775807) :
    Calls Tryz.prog 74 #[segV b (some ⟨g, o, none⟩) n c, .int .i64 ((b + k : Nat) : Int)] w fun e W => e = .returned (segV b (some ⟨g, o, none⟩) k k) ∧ Below w.heap.size w W := by
  have hw : IntKind.i64.wrap (((b + k : Nat) : Int) - (b : Int)) = (k : Int) := by rw [IntWalk.i64_in _ (by omega)]; omega
  obtain ⟨a, ha⟩ : ∃ a : Int, ((b + k : Nat) : Int) = a := ⟨_, rfl⟩
  rw [ha] at hw ⊢
  have hkI : (k : Int) ≤ (c : Int) := by omega
  have hk0 : 0 ≤ (k : Int) := by omega
  have hcI : (c : Int) ≤ 9223372036854775807 := by omega
  clear ha hb hl hk hc
  go_enter Tryz.func74, Tryz.ntmps74
  go_wp2_with fail
  have hh := Below.refl w.heap.size w
  obtain ⟨q0, q1⟩ := seg_new w (.cells #[.int .i64 (b : Nat), .slice (some ⟨g, o, none⟩) k k] 84) (.int .i64 (b : Nat)) (.slice (some ⟨g, o, none⟩) k k) 84
  refine bodyPost_ret (v := segV b (some ⟨g, o, none⟩) k k) (by simp [results, Tryz.results74, go_sem, q0, q1]) rfl ?_
  exact ⟨rfl, (hh.alloc (Nat.le_refl _) _).alloc (by simp) _⟩

end Go.Proofs.YtnhkpemajknfnaaGreatDoor.Seglog

/-
  A row of entries, with one more behind.
-/
namespace Go.Proofs.YtnhkpemajknfnaaGreatDoor.Seglog
open Go Go.RowKit Go.Lib Go.Proofs.YtnhkpemajknfnaaGreatDoor.Law Go.Proofs.YtnhkpemajknfnaaGreatDoor.Disk

theorem info_entry : (Tryz.prog.info? 88).map (fun i => (i.zero, i.size, i.bytes)) = some (some (.agg #[.string ⟨#[]⟩, .int .i64 0]), 2, 24) := by kernel_rfl

/-- An entry that lies in a block is put behind a row's. -/
theorem EntsAt.append {W : World} {base : Nat} {v : Value} {es : List En} (h : EntsAt W base v es) (hbase : base ≤ W.heap.size) (ty : TypeId) (b : Nat) (e : En)
    (hm : W.heap[b]? = some (.cells #[.string (txt e.bs), .int .i64 (e.fin : Nat)] 88 (0, 0))) (hroom : es.length ≤ 1000000000) :
    ∃ A' c' W', (Builtin.append_ #[82, 82] ty #[v, .slice (some ⟨b, 0, none⟩) 1 1]).run Tryz.prog W = .ok (.slice A' (es.length + 1) c') W' ∧ EntsAt W' base (.slice A' (es.length + 1) c') (es ++ [e]) ∧
      W.grownBy W' v.ownBlock ∧ ((Value.slice A' (es.length + 1) c').ownBlock = v.ownBlock ∨ (Value.slice A' (es.length + 1) c').ownBlock = some W.heap.size) := by
  obtain ⟨i0, hi, hz0, hz1, hz2⟩ := info_parts info_entry
  obtain ⟨v', W', hrun, h2, h3, h5⟩ := Seg.append (P := Tryz.prog) ty Tryz.underlying82 hi hz0 hz1 hz2 rfl h ⟨b, 0, none⟩ 1 1 (by decide) (flatE [e]) (flatE_length [e])
    (fun j u hu => by
      rw [Addr.add_lit]
      match j, hu with
      | 0, hu => simp [flatE] at hu; subst hu; simp [World.cell?, hm]
      | 1, hu => simp [flatE] at hu; subst hu; simp [World.cell?, hm]
      | j + 2, hu => simp [flatE] at hu) (flatE_one [e]) (by simp only [maxLen]; omega) (by omega) hbase
  obtain ⟨A', c', rfl, _⟩ := h2.form
  refine ⟨A', c', W', hrun, ?_, h3, h5⟩
  unfold EntsAt
  rw [List.length_append, flatE_append]
  exact h2

theorem info_segment : (Tryz.prog.info? 84).map (fun i => (i.zero, i.size, i.bytes)) = some (some (.agg #[.int .i64 0, .slice none 0 0]), 2, 32) := by kernel_rfl

/-- A segment that lies in a block is put behind a row's, whose entries' blocks are others than the row's own. -/
theorem SegsAt.append {W : World} {base : Nat} {v : Value} {l : List SV} (h : SegsAt W base v l) (hbase : base ≤ W.heap.size) (ty : TypeId) (b : Nat) (x : SV)
    (hm : W.heap[b]? = some (.cells #[.int .i64 (x.1.base : Nat), x.2] 84 (0, 0))) (hx : EntsAt W base x.2 x.1.es) (hroom : l.length ≤ 1000000000) :
    ∃ A' c' W', (Builtin.append_ #[79, 79] ty #[v, .slice (some ⟨b, 0, none⟩) 1 1]).run Tryz.prog W = .ok (.slice A' (l.length + 1) c') W' ∧ SegsAt W' base (.slice A' (l.length + 1) c') (l ++ [x]) ∧
      W.grownBy W' v.ownBlock ∧ ((Value.slice A' (l.length + 1) c').ownBlock = v.ownBlock ∨ (Value.slice A' (l.length + 1) c').ownBlock = some W.heap.size) := by
  obtain ⟨i0, hi, hz0, hz1, hz2⟩ := info_parts info_segment
  have hall : ∀ p ∈ l ++ [x], EntsAt W base p.2 p.1.es := fun p hp => by
    rcases List.mem_append.1 hp with h1 | h1
    · exact h.2 p h1
    · rw [List.mem_singleton.1 h1]; exact hx
  have hone : ∀ p ∈ [x], p.2.oneCell' = true := fun p hp => by
    rw [List.mem_singleton.1 hp]
    obtain ⟨A, c, hv⟩ := rowForm hx
    rw [hv]; rfl
  obtain ⟨v', W', hrun, h2, h3, h5⟩ := Seg.append (P := Tryz.prog) ty Tryz.underlying79 hi hz0 hz1 hz2 rfl h.1 ⟨b, 0, none⟩ 1 1 (by decide) (flatS [x]) (flatS_length [x])
    (fun j u hu => by
      rw [Addr.add_lit]
      match j, hu with
      | 0, hu => simp [flatS] at hu; subst hu; simp [World.cell?, hm]
      | 1, hu => simp [flatS] at hu; subst hu; simp [World.cell?, hm]
      | j + 2, hu => simp [flatS] at hu) (flatS_one [x] hone) (by simp only [maxLen]; omega) (by omega) hbase
  obtain ⟨A', c', rfl, _⟩ := h2.form
  have hno : ∀ p ∈ l ++ [x], ∀ g, p.2.ownBlock = some g → v.ownBlock ≠ some g := fun p hp g hg hv => by
    obtain ⟨_, _, cur, h6⟩ := (hall p hp).own g hg
    obtain ⟨_, _, cur', h7⟩ := h.1.own g hv
    rw [h6] at h7
    simp only [Option.some.injEq, Obj.cells.injEq] at h7
    exact absurd h7.2.1 (by decide)
  refine ⟨A', c', W', hrun, ⟨?_, fun p hp => (hall p hp).keep fun g hg => h3.block g ((hall p hp).own g hg).2.1 (fun e => hno p hp g hg e.symm)⟩, h3, h5⟩
  rw [List.length_append, flatS_append]
  exact h2

end Go.Proofs.YtnhkpemajknfnaaGreatDoor.Seglog
