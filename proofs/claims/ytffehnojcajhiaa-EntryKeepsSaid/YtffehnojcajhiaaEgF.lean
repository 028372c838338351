/-
  Contracts of kinds, small and readNumber. Contract of readRecord. Contracts of the closures that take an operator's numbers. A row of ints of the call's own that grows; what a call leaves of an operator's block. Contract of readOp: its numbers taken one by one. What readOp keeps from item to item, and what its answer is.
-/
import Derived.Test.YtffehnojcajhiaaEgB
import Derived.Test.YtffehnojcajhiaaEgE
import Derived.LoopTactic
import Derived.IntWalk
import Derived.Test.YtffehnojcajhiaaEgC
import Derived.Test.YtffehnojcajhiaaEgS
import Derived.Maps.AppendAt
import Derived.Deep.DeepCutAuto
namespace Go.Proofs.Ytffehnojcajhiaa.Wire.Entry
open Go Go.RowKit Go.Proofs.Ytffehnojcajhiaa.Law

theorem kindIs_calls (k n : Int) (m : Int) (s : ByteArray) (A : Option Addr) (n' c' : Nat) (g : Bool) (hg : ((k : Int) == n) = g) (w : World) : Calls Try.prog 69 #[.agg #[.int .i64 k, .int .i64 m, .string s, .slice A n' c'], .int .i64 n] w (RetB w g) := by
  have HB : Hid (∀ o, Below w.heap.size w (w.alloc o)) := Lib.hid fun o => (Below.refl _ _).alloc (Nat.le_refl _) o
  go_enter Try.func69, Try.ntmps69
  go_wp2_with fail
  go_ret
  exact ⟨rfl, HB.out _⟩

/-- The kinds of items. -/
def kindsL (l : List Item) : List Int := l.map Item.kind

set_option maxRecDepth 100000 in
set_option maxHeartbeats 2000000 in
theorem equalKinds_calls (l : List Item) (m : List Int) (hl : l.length ≤ 1048576) (v u : Value) (w : World) (hI : Old w.heap.size w v l) (hJ : OldI w.heap.size w u m) (g : Bool) (hg : g = true ↔ kindsL l = m) :
    Calls Try.prog 68 #[v, u, .func (.func 69) #[] #[]] w (RetB w g) := by
  obtain ⟨A, cap, rfl, _⟩ := hI.form
  obtain ⟨B, cap2, rfl, _⟩ := hJ.form
  obtain ⟨len, hlen⟩ : ∃ len, l.length = len := ⟨_, rfl⟩
  obtain ⟨len2, hlen2⟩ : ∃ len, m.length = len := ⟨_, rfl⟩
  rw [hlen] at hI hl ⊢
  rw [hlen2] at hJ ⊢
  have HI := Lib.hid hI
  have HJ := Lib.hid hJ
  have HL := Lib.hid hlen
  have HL2 := Lib.hid hlen2
  have HG := Lib.hid hg
  clear hI hJ hlen hlen2 hg
  by_cases hll : len = len2
  · subst hll
    go_enter Try.func68, Try.ntmps68
    go_wp2_with fail
    go_loopw [17] (fun i wr => ∃ k : Nat, i = .int .i64 k ∧ k ≤ len ∧ (∀ j x y, l[j]? = some x → m[j]? = some y → j < k → x.kind = y) ∧ Below w.heap.size w wr) (fun i _ => len - (intOf i).toNat)
    case atStart => exact ⟨0, rfl, Nat.zero_le _, fun _ _ _ _ _ h => absurd h (Nat.not_lt_zero _), Below.refl _ _⟩
    case round =>
      obtain ⟨k, rfl, hk, hno, hB⟩ := hrel
      have HNO := Lib.hid hno
      have HB := Lib.hid hB
      have hs := hB.size
      clear hno hB
      by_cases hlt : k < len
      · obtain ⟨x, hx⟩ : ∃ x, l[k]? = some x := ⟨_, List.getElem?_eq_getElem (by rw [HL.out]; exact hlt)⟩
        obtain ⟨y, hy⟩ : ∃ y, m[k]? = some y := ⟨_, List.getElem?_eq_getElem (by rw [HL2.out]; exact hlt)⟩
        obtain ⟨b, off, rfl, hb, hcells⟩ := (Items.low HB.out HI.out).at (by omega)
        obtain ⟨ux, ⟨c0, c1, c2, c3⟩, hi⟩ := hcells k x hx
        obtain ⟨A', cap', rfl, _⟩ := hi.form
        obtain ⟨ib, io, rfl, hib, hcell⟩ := (IntsAt.low HB.out HJ.out).at (by omega)
        have hc := hcell k y hy
        obtain ⟨q, hq⟩ : ∃ q : Bool, ((x.kind : Int) == y) = q := ⟨_, rfl⟩
        have CT : Hid (∀ W, Calls Try.prog 69 #[.agg #[.int .i64 x.kind, .int .i64 x.n, .string x.s, .slice A' x.kids.length cap'], .int .i64 y] W (RetB W q)) := Lib.hid fun W => kindIs_calls x.kind y x.n x.s A' x.kids.length cap' q hq W
        obtain ⟨kl, hkl⟩ : ∃ kl, x.kids.length = kl := ⟨_, rfl⟩
        rw [hkl] at c3 CT
        have HX := Lib.hid hx
        have HY := Lib.hid hy
        have HQ := Lib.hid hq
        have hs1 : w.heap.size ≤ (wr.alloc (.cells #[.int .i64 x.kind, .int .i64 x.n, .string x.s, .slice A' kl cap'] 71)).heap.size := by simp; omega
        have HB1 := Lib.hid (HB.out.alloc hs (.cells #[.int .i64 x.kind, .int .i64 x.n, .string x.s, .slice A' kl cap'] 71))
        have HS1 := Lib.hid hs1
        have hbs : b ≠ wr.heap.size := by omega
        have hibs : ib < wr.heap.size := by omega
        clear hcells hcell hi hx hy hq hkl hs1
        go_wp2_with fail
        refine (CT.out _).mono ?_
        rintro e w2 ⟨rfl, hB2⟩
        have HB2 := Lib.hid (HB1.out.trans (hB2.mono HS1.out))
        clear hB2 CT HB1 HS1
        cases q with
        | true =>
          go_wp2_with fail
          go_roundw
          case rel =>
            refine ⟨k + 1, by go_num, by omega, fun j x' y' hx' hy' hj => ?_, HB2.out⟩
            by_cases hjk : j = k
            · subst hjk
              obtain rfl := Option.some.inj (hx'.symm.trans HX.out)
              obtain rfl := Option.some.inj (hy'.symm.trans HY.out)
              exact beq_iff_eq.1 HQ.out
            · exact HNO.out j x' y' hx' hy' (by omega)
          case measure => simp [intOf]; omega
        | false =>
          obtain rfl : g = false := b_false HG.out fun h => by
            have h1 : (kindsL l)[k]? = some x.kind := by rw [kindsL, List.getElem?_map, HX.out]; rfl
            rw [h, HY.out] at h1
            exact beq_eq_false_iff_ne.1 HQ.out (Option.some.inj h1).symm
          go_wp2_with fail
          go_ret
          exact ⟨rfl, HB2.out⟩
      · obtain rfl : k = len := by omega
        obtain rfl : g = true := HG.out.2 (by
          apply List.ext_getElem?
          intro j
          rw [kindsL, List.getElem?_map]
          by_cases hj : j < k
          · obtain ⟨x, hx⟩ : ∃ x, l[j]? = some x := ⟨_, List.getElem?_eq_getElem (by rw [HL.out]; exact hj)⟩
            obtain ⟨y, hy⟩ : ∃ y, m[j]? = some y := ⟨_, List.getElem?_eq_getElem (by rw [HL2.out]; exact hj)⟩
            rw [hx, hy, Option.map_some, HNO.out j x y hx hy hj]
          · rw [List.getElem?_eq_none (by rw [HL.out]; omega), List.getElem?_eq_none (by rw [HL2.out]; omega)]
            rfl)
        go_wp2_with fail
        go_ret
        exact ⟨rfl, HB.out⟩
  · obtain rfl : g = false := b_false HG.out fun h => hll (by rw [← HL.out, ← HL2.out, ← h, kindsL, List.length_map])
    have hI1 : ((len : Int) == (len2 : Int)) = false := by rw [beq_eq_false_iff_ne]; omega
    have hI2 : ((len : Int) != (len2 : Int)) = true := by rw [bne_iff_ne]; omega
    go_enter Try.func68, Try.ntmps68
    go_wp2_with fail
    go_ret
    exact ⟨rfl, Below.refl _ _⟩

theorem kinds_calls (l : List Item) (m : List Int) (hl : l.length ≤ 1048576) (v u : Value) (w : World) (hI : Old w.heap.size w v l) (hJ : OldI w.heap.size w u m) (g : Bool) (hg : g = true ↔ kindsL l = m) :
    Calls Try.prog 60 #[v, u] w (RetB w g) := by
  have CE := Lib.hid (equalKinds_calls l m hl v u w hI hJ g hg)
  clear hI hJ hg hl
  go_enter Try.func60, Try.ntmps60
  go_wp2_with fail
  refine CE.out.mono ?_
  rintro e W ⟨rfl, hB⟩
  go_wp2_with fail
  go_ret
  exact ⟨rfl, hB⟩

theorem small_yes (v : Nat) (hv : v < 4294967296) (w : World) : Calls Try.prog 61 #[.int .i64 (v : Nat)] w fun e W => e = .returned (.tuple #[.int .u32 (v : Nat), .bool true]) ∧ w = W := by
  go_enter Try.func61, Try.ntmps61
  go_wp2_with fail
  go_ret2
  exact ⟨rfl, rfl⟩

theorem small_no (n : Int) (hn : small n = none) (w : World) : Calls Try.prog 61 #[.int .i64 n] w fun e W => e = .returned (.tuple #[.int .u32 ((n % 4294967296).toNat : Nat), .bool false]) ∧ w = W := by
  have hb : (n % 4294967296 == n) = false := by
    rw [beq_eq_false_iff_ne]
    intro h
    unfold small at hn
    rw [if_pos (by omega)] at hn
    cases hn
  have hz : ((n % 4294967296).toNat : Int) = n % 4294967296 := by omega
  have HZ := Lib.hid hz
  clear hz hn
  go_enter Try.func61, Try.ntmps61
  go_wp2_with fail
  go_ret2
  exact ⟨by rw [HZ.out]; rfl, rfl⟩

/-- A number of 32 bits, and whether it is the one. -/
theorem small_calls (n : Int) (val : Nat) (hval : (n % 4294967296).toNat = val) (g : Bool) (hg : (small n).isSome = g) (w : World) : Calls Try.prog 61 #[.int .i64 n] w fun e W => e = .returned (.tuple #[.int .u32 (val : Nat), .bool g]) ∧ w = W := by
  subst hval
  match hq : small n with
  | some v =>
    rw [hq] at hg
    obtain rfl : true = g := hg
    obtain ⟨rfl, hv⟩ := small_some hq
    have e : (((v : Nat) : Int) % 4294967296).toNat = v := by omega
    rw [e]
    exact small_yes v hv w
  | none =>
    rw [hq] at hg
    obtain rfl : false = g := hg
    exact small_no n hq w
theorem small_val {n : Int} {v : Nat} (h : small n = some v) : (n % 4294967296).toNat = v := by
  obtain ⟨rfl, hv⟩ := small_some h
  omega

theorem ints_lit (w : World) (cs : Array Value) (l : List Int) (n b : Nat) (hb : w.heap.size = b) (hn : l.length = n) (hcs : cs.toList = l.map (Value.int .i64)) : OldI (w.alloc (.cells cs 3)).heap.size (w.alloc (.cells cs 3)) (.slice (some ⟨b, 0, none⟩) n n) l := by
  subst hb hn
  refine ⟨_, l.length, rfl, Nat.le_refl _, (fun h => by cases h), fun _ => ⟨w.heap.size, 0, rfl, by simp, fun j x hx => ?_⟩⟩
  rw [Nat.zero_add]
  refine cell_new w cs _ j _ ?_
  rw [← Array.getElem?_toList, hcs, List.getElem?_map, hx]
  rfl

/-- A number and whether there is one. -/
def RetNum (w : World) (o : Option Int) (e : Ending) (W : World) : Prop := e = .returned (.tuple #[.int .i64 (o.getD 0), .bool o.isSome]) ∧ Below w.heap.size w W

set_option maxRecDepth 100000 in
set_option maxHeartbeats 1000000 in
theorem readNumber_calls (l : List Item) (hl : l.length ≤ 1048576) (v : Value) (w : World) (hI : Old w.heap.size w v l) : Calls Try.prog 44 #[v] w (RetNum w (rdNum l)) := by
  obtain ⟨A, cap, rfl, _⟩ := hI.form
  obtain ⟨g, hg⟩ := exB (kindsL l = [0])
  have hB0 := (Below.refl w.heap.size w).alloc (Nat.le_refl _) (.cells #[.int .i64 0] 3)
  have CK := Lib.hid (kinds_calls l [0] hl _ _ _ (hI.on hB0) (ints_lit w #[.int .i64 0] [0] 1 w.heap.size rfl rfl rfl) g hg)
  obtain ⟨o, ho⟩ : ∃ o, rdNum l = o := ⟨_, rfl⟩
  rw [ho]
  obtain ⟨len, hlen⟩ : ∃ len, l.length = len := ⟨_, rfl⟩
  rw [hlen] at hI CK ⊢
  have HB0 := Lib.hid hB0
  have HI := Lib.hid hI
  have HG := Lib.hid hg
  have HO := Lib.hid ho
  have HL := Lib.hid hlen
  clear hB0 hI hg ho hl hlen
  go_enter Try.func44, Try.ntmps44
  go_wp2_with fail
  refine CK.out.mono ?_
  rintro e w1 ⟨rfl, hB1⟩
  have HB1 := Lib.hid (HB0.out.trans (hB1.mono (by simp)))
  clear hB1 HB0 CK
  cases g with
  | true =>
    have hk := HG.out.1 rfl
    match l, hk with
    | [a], hk =>
      have hka : a.kind = 0 := by simpa [kindsL] using hk
      obtain rfl : len = 1 := HL.out.symm
      obtain ⟨b, off, rfl, hb, hcells⟩ := (Items.low HB1.out HI.out).at (by omega)
      obtain ⟨u, ⟨c0, c1, c2, c3⟩, _⟩ := hcells 0 a rfl
      have ho : o = some a.n := by rw [← HO.out, rdNum, if_pos hka]
      subst ho
      simp only [Nat.zero_mul, Nat.add_zero] at c0 c1 c2 c3
      clear hcells hk HG HO HL
      go_wp2_with fail
      go_ret2
      exact ⟨rfl, HB1.out⟩
    | [], hk => simp [kindsL] at hk
    | _ :: _ :: _, hk => simp [kindsL] at hk
  | false =>
    have ho : o = none := by
      rw [← HO.out]
      match l, HG.out with
      | [a], h =>
        rw [rdNum, if_neg]
        intro hka
        have := h.2 (by simp [kindsL, hka])
        cases this
      | [], _ => rfl
      | _ :: _ :: _, _ => rfl
    subst ho
    clear HG HO
    go_wp2_with fail
    go_ret2
    exact ⟨rfl, HB1.out⟩

end Go.Proofs.Ytffehnojcajhiaa.Wire.Entry

namespace Go.Proofs.Ytffehnojcajhiaa.Wire.Entry
open Go Go.RowKit Go.Proofs.Ytffehnojcajhiaa.Law

theorem stored5 {W : World} {b : Nat} {a0 a1 a2 a3 a4 : Value} {T : TypeId} (h : W.heap[b]? = some (.cells #[a0, a1, a2, a3, a4] T)) (k n s u v : Value) :
    (((((W.setCell ⟨b, 0, none⟩ k).setCell ⟨b, 1, none⟩ n).setCell ⟨b, 2, none⟩ s).setCell ⟨b, 3, none⟩ u).setCell ⟨b, 4, none⟩ v).heap[b]? = some (.cells #[k, n, s, u, v] T) := by
  simp [World.setCell, Array.getElem?_modify, h]
theorem set5_below {B : Nat} {w W : World} {b : Nat} (h : Below B w W) (hb : B ≤ b) (k n s u v : Value) : Below B w (((((W.setCell ⟨b, 0, none⟩ k).setCell ⟨b, 1, none⟩ n).setCell ⟨b, 2, none⟩ s).setCell ⟨b, 3, none⟩ u).setCell ⟨b, 4, none⟩ v) :=
  (set4_below h hb k n s u).setCell (p := ⟨b, 4, none⟩) hb v
theorem box5 {W : World} {b : Nat} {a0 a1 a2 a3 a4 : Value} {T : TypeId} (h : W.heap[b]? = some (.cells #[a0, a1, a2, a3, a4] T)) :
    (W.cell? ⟨b, 0, none⟩ = some a0 ∧ W.cell? ⟨b, 1, none⟩ = some a1 ∧ W.cell? ⟨b, 2, none⟩ = some a2 ∧ W.cell? ⟨b, 3, none⟩ = some a3 ∧ W.cell? ⟨b, 4, none⟩ = some a4) ∧
    W.frozen? ⟨b, 0, none⟩ = false ∧ W.frozen? ⟨b, 1, none⟩ = false ∧ W.frozen? ⟨b, 2, none⟩ = false ∧ W.frozen? ⟨b, 3, none⟩ = false ∧ W.frozen? ⟨b, 4, none⟩ = false := by
  refine ⟨⟨?_, ?_, ?_, ?_, ?_⟩, ?_, ?_, ?_, ?_, ?_⟩ <;> simp [World.cell?, World.frozen?, h]

/-- A record and whether it was one. -/
def RetRec (w : World) (o : Option Rec) (e : Ending) (W : World) : Prop :=
  ∃ r : Rec, e = .returned (.tuple #[recV r, .bool o.isSome]) ∧ (∀ r', o = some r' → r = r') ∧ Below w.heap.size w W

set_option maxRecDepth 100000 in
set_option maxHeartbeats 2000000 in
theorem readRecord_calls (l : List Item) (hl : l.length ≤ 1048576) (v : Value) (w : World) (hI : Old w.heap.size w v l) : Calls Try.prog 42 #[v] w (RetRec w (rdRec l)) := by
  obtain ⟨A, cap, rfl, _⟩ := hI.form
  obtain ⟨g, hg⟩ := exB (kindsL l = [0, 0, 0, 1, 0])
  have hB0 := ((Below.refl w.heap.size w).alloc (Nat.le_refl _) (.cells #[.int .i64 0, .int .i64 0, .int .i64 0, .string ⟨#[]⟩, .int .u32 0] 24)).alloc (by simp) (.cells #[.int .i64 0, .int .i64 0, .int .i64 0, .int .i64 1, .int .i64 0] 3)
  have hlit := ints_lit (w.alloc (.cells #[.int .i64 0, .int .i64 0, .int .i64 0, .string ⟨#[]⟩, .int .u32 0] 24)) #[.int .i64 0, .int .i64 0, .int .i64 0, .int .i64 1, .int .i64 0] [0, 0, 0, 1, 0] 5 (w.heap.size + 1) (by simp) rfl rfl
  have CK := Lib.hid (kinds_calls l [0, 0, 0, 1, 0] hl _ _ _ (hI.on hB0) hlit g hg)
  have hR0 : ((w.alloc (.cells #[.int .i64 0, .int .i64 0, .int .i64 0, .string ⟨#[]⟩, .int .u32 0] 24)).alloc (.cells #[.int .i64 0, .int .i64 0, .int .i64 0, .int .i64 1, .int .i64 0] 3)).heap[w.heap.size]? = some (.cells #[.int .i64 0, .int .i64 0, .int .i64 0, .string ⟨#[]⟩, .int .u32 0] 24) :=
    ((Below.refl _ _).alloc (Nat.le_refl _) _ |>.block w.heap.size (by simp)).trans (heap_alloc_new w _)
  obtain ⟨o, ho⟩ : ∃ o, rdRec l = o := ⟨_, rfl⟩
  rw [ho]
  obtain ⟨len, hlen⟩ : ∃ len, l.length = len := ⟨_, rfl⟩
  rw [hlen] at hI CK ⊢
  have HB0 := Lib.hid hB0
  have HR0 := Lib.hid hR0
  have HI := Lib.hid hI
  have HG := Lib.hid hg
  have HO := Lib.hid ho
  have HL := Lib.hid hlen
  clear hB0 hI hg ho hl hlen hR0 hlit
  go_enter Try.func42, Try.ntmps42
  go_wp2_with fail
  refine CK.out.mono ?_
  rintro e w1 ⟨rfl, hB1⟩
  have hbox := (hB1.block w.heap.size (by simp; omega)).trans HR0.out
  have hB01 := HB0.out.trans (hB1.mono (by simp; omega))
  have hs1 : w.heap.size < w1.heap.size := by have := hB1.size; simp at this; omega
  have HB1 := Lib.hid hB01
  have HBX := Lib.hid hbox
  obtain ⟨⟨q0, q1, q2, q3, q4⟩, z0, z1, z2, z3, z4⟩ := box5 hbox
  clear hB1 HB0 CK hbox hB01 HR0
  cases g with
  | false =>
    have ho : o = none := by
      rw [← HO.out]
      match l, HG.out with
      | [a, b, c, d, e], h =>
        rw [rdRec, if_neg]
        rintro ⟨h1, h2, h3, h4, h5⟩
        have := h.2 (by simp [kindsL, h1, h2, h3, h4, h5])
        cases this
      | [], _ => rfl
      | [_], _ => rfl
      | [_, _], _ => rfl
      | [_, _, _], _ => rfl
      | [_, _, _, _], _ => rfl
      | _ :: _ :: _ :: _ :: _ :: _ :: _, _ => rfl
    subst ho
    have hfin := stored5 HBX.out (.int .i64 0) (.int .i64 0) (.int .i64 0) (.string ⟨#[]⟩) (.int .u32 0)
    have hBf := set5_below HB1.out (Nat.le_refl _) (.int .i64 0) (.int .i64 0) (.int .i64 0) (.string ⟨#[]⟩) (.int .u32 0)
    have HF := Lib.hid hfin
    have HBF := Lib.hid hBf
    clear hfin hBf HG HO
    go_wp2_with fail
    have hfin := HF.out
    have hBf := HBF.out
    clear HF HBF q0 q1 q2 q3 q4 z0 z1 z2 z3 z4
    generalize (((((w1.setCell ⟨w.heap.size, 0, none⟩ (.int .i64 0)).setCell ⟨w.heap.size, 1, none⟩ (.int .i64 0)).setCell ⟨w.heap.size, 2, none⟩ (.int .i64 0)).setCell ⟨w.heap.size, 3, none⟩ (.string ⟨#[]⟩)).setCell ⟨w.heap.size, 4, none⟩ (.int .u32 0)) = W at hfin hBf ⊢
    obtain ⟨⟨p0, p1, p2, p3, p4⟩, _⟩ := box5 hfin
    exact bodyPost_ret (v := .tuple #[.agg #[.int .i64 0, .int .i64 0, .int .i64 0, .string ⟨#[]⟩, .int .u32 0], .bool false]) (by simp [results, Try.results42, go_sem, p0, p1, p2, p3, p4]) rfl ⟨zeroR, rfl, (fun r' h => by cases h), hBf⟩
  | true =>
    have hk := HG.out.1 rfl
    match l, hk with
    | [], hk => simp [kindsL] at hk
    | [_], hk => simp [kindsL] at hk
    | [_, _], hk => simp [kindsL] at hk
    | [_, _, _], hk => simp [kindsL] at hk
    | [_, _, _, _], hk => simp [kindsL] at hk
    | _ :: _ :: _ :: _ :: _ :: _ :: _, hk => simp [kindsL] at hk
    | [xa, xb, xc, xd, xe], hk =>
      simp only [kindsL, List.map_cons, List.map_nil, List.cons.injEq, and_true] at hk
      obtain rfl : len = 5 := HL.out.symm
      have ho : o = (small xe.n).map fun v => ⟨xa.n, xb.n, xc.n, xd.s, v⟩ := by rw [← HO.out, rdRec, if_pos hk]
      obtain ⟨b, off, rfl, hb, hcells⟩ := (Items.low HB1.out HI.out).at (by omega)
      obtain ⟨ua, ⟨a0, a1, a2, a3⟩, _⟩ := hcells 0 xa rfl
      obtain ⟨ub, ⟨b0, b1, b2, b3⟩, _⟩ := hcells 1 xb rfl
      obtain ⟨uc, ⟨c0, c1, c2, c3⟩, _⟩ := hcells 2 xc rfl
      obtain ⟨ud, ⟨d0, d1, d2, d3⟩, _⟩ := hcells 3 xd rfl
      obtain ⟨ue, ⟨e0, e1, e2, e3⟩, _⟩ := hcells 4 xe rfl
      simp only [Nat.zero_mul, Nat.add_zero, Nat.one_mul, Nat.reduceMul, Nat.add_assoc, Nat.reduceAdd] at a0 a1 a2 a3 b0 b1 b2 b3 c0 c1 c2 c3 d0 d1 d2 d3 e0 e1 e2 e3
      have HOO := Lib.hid ho
      clear hcells hk HG HO HL ho HI
      obtain ⟨val, hval⟩ : ∃ val, (xe.n % 4294967296).toNat = val := ⟨_, rfl⟩
      obtain ⟨gs, hgs⟩ : ∃ gs, (small xe.n).isSome = gs := ⟨_, rfl⟩
      have CS := Lib.hid (small_calls xe.n val hval gs hgs w1)
      have hfin2 : o.isSome = gs ∧ ∀ r', o = some r' → (⟨xa.n, xb.n, xc.n, xd.s, val⟩ : Rec) = r' := by
        rw [HOO.out]
        match hq : small xe.n with
        | none => rw [hq] at hgs; exact ⟨hgs, fun r' h => by cases h⟩
        | some v => rw [hq] at hgs; rw [small_val hq] at hval; subst hval; exact ⟨hgs, fun r' h => Option.some.inj h⟩
      obtain ⟨hos, hor⟩ := hfin2
      have HOS := Lib.hid hos
      have HOR := Lib.hid hor
      clear hos hor hval hgs HOO
      go_wp2_with fail
      refine CS.out.mono ?_
      rintro e w2 ⟨rfl, rfl⟩
      clear CS
      go_wp2_with fail
      have HC : Hid (∀ W, Below w.heap.size w1 W → (W.cell? ⟨b, off + 1, none⟩ = some (.int .i64 xa.n) ∧ W.cell? ⟨b, off + 5, none⟩ = some (.int .i64 xb.n) ∧ W.cell? ⟨b, off + 9, none⟩ = some (.int .i64 xc.n) ∧ W.cell? ⟨b, off + 14, none⟩ = some (.string xd.s))) := Lib.hid fun W hW =>
        ⟨(hW.cell (p := ⟨b, off + 1, none⟩) (by show b < _; omega)).trans a1, (hW.cell (p := ⟨b, off + 5, none⟩) (by show b < _; omega)).trans b1, (hW.cell (p := ⟨b, off + 9, none⟩) (by show b < _; omega)).trans c1, (hW.cell (p := ⟨b, off + 14, none⟩) (by show b < _; omega)).trans d2⟩
      have hfin := stored5 HBX.out (.int .i64 xa.n) (.int .i64 xb.n) (.int .i64 xc.n) (.string xd.s) (.int .u32 (val : Nat))
      have hBf := set5_below HB1.out (Nat.le_refl _) (.int .i64 xa.n) (.int .i64 xb.n) (.int .i64 xc.n) (.string xd.s) (.int .u32 (val : Nat))
      have HF := Lib.hid hfin
      have HBF := Lib.hid hBf
      clear hfin hBf a0 a1 a2 a3 b0 b1 b2 b3 c0 c1 c2 c3 d0 d1 d2 d3 e0 e1 e2 e3
      refine wp_region_noPanic ?_
      refine wp_region_held_tail (C := fun w' => Below w.heap.size w1 w') [0, 1, 2, 3, 4, 5, 6, 7, 8, 9, 10, 11, 12, 13, 14, 15, 16, 17, 18] [19, 20] 20 (by kernel_rfl) (by kernel_rfl) (fun _ _ _ _ _ h => h) ?_ ?_
      · exact (Below.refl _ _).drew
      iterate 19
        refine heldI_step (v := ?_) rfl (by rfl) (fun w' hw' => ?_) ?_
        rotate_left
        · obtain ⟨k0, k1, k2, k3⟩ := HC.out w' hw'
          go_simp
          all_goals with_reducible rfl
        simp only [Act.put, List.getElem_toArray, List.getElem_cons_succ, List.getElem_cons_zero, List.setIfInBounds_toArray, List.set_cons_succ, List.set_cons_zero]
      refine heldI_nil ?_
      clear HC
      refine seqI_step rfl ?_
      go_wp2_with fail
      refine ⟨?_, ?_⟩
      · exact (set5_below (Below.refl w.heap.size w1) (Nat.le_refl _) _ _ _ _ _).drew
      refine seqI_last rfl ?_
      go_wp2_with fail
      refine NoPanic.normal ?_
      go_wp2_with fail
      have hfin := HF.out
      have hBf := HBF.out
      clear HF HBF q0 q1 q2 q3 q4 z0 z1 z2 z3 z4
      generalize (((((w1.setCell ⟨w.heap.size, 0, none⟩ (.int .i64 xa.n)).setCell ⟨w.heap.size, 1, none⟩ (.int .i64 xb.n)).setCell ⟨w.heap.size, 2, none⟩ (.int .i64 xc.n)).setCell ⟨w.heap.size, 3, none⟩ (.string xd.s)).setCell ⟨w.heap.size, 4, none⟩ (.int .u32 (val : Nat))) = W at hfin hBf ⊢
      obtain ⟨⟨p0, p1, p2, p3, p4⟩, _⟩ := box5 hfin
      exact bodyPost_ret (v := .tuple #[.agg #[.int .i64 xa.n, .int .i64 xb.n, .int .i64 xc.n, .string xd.s, .int .u32 (val : Nat)], .bool gs]) (by simp [results, Try.results42, go_sem, p0, p1, p2, p3, p4]) rfl ⟨⟨xa.n, xb.n, xc.n, xd.s, val⟩, by rw [HOS.out], HOR.out, hBf.drew⟩

end Go.Proofs.Ytffehnojcajhiaa.Wire.Entry

namespace Go.Proofs.Ytffehnojcajhiaa.Wire.Entry
open Go Go.RowKit Go.Proofs.Ytffehnojcajhiaa.Law

/-- A Bool in a block of its own. -/
def BoolAt (W : World) (b : Nat) (q : Bool) : Prop := W.heap[b]? = some (.cells #[.bool q] 4)
theorem BoolAt.cell {W : World} {b : Nat} {q : Bool} (h : BoolAt W b q) : W.cell? ⟨b, 0, none⟩ = some (.bool q) ∧ W.frozen? ⟨b, 0, none⟩ = false := by
  unfold BoolAt at h
  refine ⟨?_, ?_⟩ <;> simp [World.cell?, World.frozen?, h]
theorem BoolAt.set {W : World} {b : Nat} {q : Bool} (h : BoolAt W b q) (r : Bool) : BoolAt (W.setCell ⟨b, 0, none⟩ (.bool r)) b r := by
  unfold BoolAt at h ⊢
  simp [World.setCell, Array.getElem?_modify, h]
theorem BoolAt.alloc {W : World} {b : Nat} {q : Bool} (h : BoolAt W b q) (o : Obj) : BoolAt (W.alloc o) b q := (Below.heap_alloc W o b (lt_of_some h)).trans h

/-- A number and what became of the note. -/
def Noted (W : World) (b : Nat) (q : Bool) (v : Value) (e : Ending) (W' : World) : Prop := e = .returned v ∧ W.grownBy W' (some b) ∧ BoolAt W' b q

theorem BoolAt.noted {W : World} {b : Nat} {q : Bool} (h : BoolAt W b q) (r : Bool) (o : Obj) : W.grownBy ((W.setCell ⟨b, 0, none⟩ (.bool r)).alloc o) (some b) ∧ BoolAt ((W.setCell ⟨b, 0, none⟩ (.bool r)).alloc o) b r := by
  refine ⟨⟨rfl, rfl, rfl, by simp [World.setCell], fun k hk hne => ?_⟩, (h.set r).alloc o⟩
  rw [Below.heap_alloc _ _ _ (by simpa [World.setCell] using hk)]
  exact Below.heap_setCell _ _ _ _ (fun e => hne (by rw [e]))

set_option maxRecDepth 100000 in
theorem number_calls (k n : Int) (s : ByteArray) (A : Option Addr) (l c b : Nat) (q r : Bool) (hr : ((k : Int) == 0) = r) (W : World) (h : BoolAt W b q) :
    Calls Try.prog 70 #[.agg #[.int .i64 k, .int .i64 n, .string s, .slice A l c], .pointer (some ⟨b, 0, none⟩)] W (Noted W b (q && r) (.int .i64 n)) := by
  have hb := lt_of_some h
  have hne : b ≠ W.heap.size := by omega
  obtain ⟨c0, z0⟩ := h.cell
  have HN := Lib.hid h.noted
  clear h
  cases q with
  | true =>
    go_enter Try.func70, Try.ntmps70
    go_wp2_with fail
    go_ret
    exact ⟨rfl, HN.out _ _⟩
  | false =>
    go_enter Try.func70, Try.ntmps70
    go_wp2_with fail
    go_ret
    exact ⟨rfl, HN.out _ _⟩

/-- The closure in a block of its own. -/
def FuncAt (W : World) (b b' : Nat) : Prop := W.heap[b]? = some (.cells #[.func (.func 70) #[] #[.pointer (some ⟨b', 0, none⟩)]] 126)
theorem FuncAt.cell {W : World} {b b' : Nat} (h : FuncAt W b b') : W.cell? ⟨b, 0, none⟩ = some (.func (.func 70) #[] #[.pointer (some ⟨b', 0, none⟩)]) := by
  unfold FuncAt at h
  simp [World.cell?, h]

set_option maxRecDepth 100000 in
set_option maxHeartbeats 1000000 in
theorem smallNumber_calls (k n : Int) (s : ByteArray) (A : Option Addr) (l c b b6 : Nat) (q r g : Bool) (hr : ((k : Int) == 0) = r) (val : Nat) (hval : (n % 4294967296).toNat = val) (hg : (small n).isSome = g) (W : World) (h : BoolAt W b q) (h6 : FuncAt W b6 b) :
    Calls Try.prog 71 #[.agg #[.int .i64 k, .int .i64 n, .string s, .slice A l c], .pointer (some ⟨b6, 0, none⟩), .pointer (some ⟨b, 0, none⟩)] W (Noted W b (q && r && g) (.int .u32 (val : Nat))) := by
  have hb := lt_of_some h
  have hb6 := lt_of_some h6
  have hne6 : b6 ≠ W.heap.size := by omega
  have c6 := h6.cell
  have CN := Lib.hid (number_calls k n s A l c b q r hr (W.alloc (.cells #[.int .i64 k, .int .i64 n, .string s, .slice A l c] 71)) (h.alloc _))
  have CS : Hid (∀ W, Calls Try.prog 61 #[.int .i64 n] W fun e W' => e = .returned (.tuple #[.int .u32 (val : Nat), .bool g]) ∧ W = W') := Lib.hid fun W => small_calls n val hval g hg W
  clear h h6 hr hval hg
  go_enter Try.func71, Try.ntmps71
  go_wp2_with fail
  refine CN.out.mono ?_
  rintro e W1 ⟨rfl, hG, hB⟩
  clear CN
  go_wp2_with fail
  refine (CS.out _).mono ?_
  rintro e W2 ⟨rfl, rfl⟩
  clear CS
  obtain ⟨p0, y0⟩ := hB.cell
  have hG2 : W.grownBy W1 (some b) := (World.grownBy_alloc W _ _).trans hG
  have HG := Lib.hid hG2
  have HB := Lib.hid hB
  clear hG hB hG2
  have HFIN : Hid (∀ x, W.grownBy (W1.setCell ⟨b, 0, none⟩ (.bool x)) (some b) ∧ BoolAt (W1.setCell ⟨b, 0, none⟩ (.bool x)) b x) := Lib.hid fun x => ⟨HG.out.trans ⟨rfl, rfl, rfl, by simp [World.setCell], fun k hk hne => Below.heap_setCell _ _ _ _ (fun e => hne (by rw [e]))⟩, HB.out.set x⟩
  obtain ⟨x, hx⟩ : ∃ x, (q && r) = x := ⟨_, rfl⟩
  rw [hx] at p0
  have HX := Lib.hid hx
  clear hx
  cases x with
  | true =>
    go_wp2_with fail
    go_ret
    exact ⟨rfl, by rw [show (q && r && g) = g by rw [HX.out]; rfl]; exact HFIN.out _⟩
  | false =>
    go_wp2_with fail
    go_ret
    exact ⟨rfl, by rw [show (q && r && g) = false by rw [HX.out]; rfl]; exact HFIN.out _⟩

end Go.Proofs.Ytffehnojcajhiaa.Wire.Entry

namespace Go.Proofs.Ytffehnojcajhiaa.Wire.Entry
open Go Go.RowKit Go.Proofs.Ytffehnojcajhiaa.Law

def ivals (l : List Int) : List Value := l.map (Value.int .i64)
theorem ivals_append (a b : List Int) : ivals (a ++ b) = ivals a ++ ivals b := by simp [ivals]
theorem ivals_length (a : List Int) : (ivals a).length = a.length := by simp [ivals]
theorem ivals_get {l : List Int} {j : Nat} {x : Int} (h : l[j]? = some x) : (ivals l)[j]? = some (.int .i64 x) := by simp [ivals, h]

/-- Ints in a row of the call's own. -/
def OwnI (W : World) (base : Nat) (v : Value) (l : List Int) : Prop := W.ownsRow base 3 1 v l.length (ivals l)
theorem OwnI.nil (W : World) (base : Nat) : OwnI W base (.slice none 0 0) [] := World.ownsRow_nil W base 3 1
theorem OwnI.form {W : World} {base : Nat} {v : Value} {l : List Int} (h : OwnI W base v l) : ∃ A cap, v = .slice A l.length cap ∧ l.length ≤ cap := by
  rcases h.2 with ⟨rfl, hz⟩ | ⟨g, cap, cur, rfl, _, _, hn, _⟩
  · exact ⟨none, 0, by rw [hz], by omega⟩
  · exact ⟨_, cap, rfl, hn⟩
theorem OwnI.own {W : World} {base : Nat} {v : Value} {l : List Int} (h : OwnI W base v l) {g : Nat} (hg : v.ownBlock = some g) : base ≤ g ∧ g < W.heap.size := h.lt g hg
theorem OwnI.keep {W W' : World} {base : Nat} {v : Value} {l : List Int} (h : OwnI W base v l) (hb : ∀ g, v.ownBlock = some g → W'.heap[g]? = W.heap[g]?) : OwnI W' base v l := by
  refine ⟨h.1, ?_⟩
  rcases h.2 with h0 | ⟨g, cap, cur, rfl, h1, h2, h3⟩
  · exact .inl h0
  · exact .inr ⟨g, cap, cur, rfl, h1, (hb g rfl).trans h2, h3⟩
theorem OwnI.below {W W' : World} {base : Nat} {v : Value} {l : List Int} (h : OwnI W base v l) (hB : Below W.heap.size W W') : OwnI W' base v l := h.keep fun _ hg => hB.block _ (h.own hg).2
theorem OwnI.ints {W : World} {base : Nat} {v : Value} {l : List Int} (h : OwnI W base v l) : IntsAt (fun k => base ≤ k ∧ k < W.heap.size) W v l := by
  have hlt := fun (g : Nat) (hg : v.ownBlock = some g) => h.own hg
  have hcell := fun (g : Nat) (hg : v.ownBlock = some g) => World.ownsRow.cells h hg
  rcases h.2 with ⟨rfl, hz⟩ | ⟨g, cap, cur, rfl, _, _, hn, _⟩
  · exact ⟨none, 0, by rw [hz], by omega, fun _ => rfl, fun hp => absurd hp (by omega)⟩
  · refine ⟨_, cap, rfl, hn, (fun h => by cases h), fun _ => ⟨g, 0, rfl, hlt g rfl, fun j x hx => ?_⟩⟩
    have := hcell g rfl j _ (ivals_get hx)
    rw [Addr.add_lit] at this
    exact this

theorem info_int : (Try.prog.info? 3).map (fun i => (i.zero, i.size, i.bytes)) = some (some (.int .i64 0), 1, 8) := by kernel_rfl

/-- One more behind. -/
theorem OwnI.append {W : World} {base : Nat} {v : Value} {l : List Int} (h : OwnI W base v l) (hbase : base ≤ W.heap.size) (y : Int) (ty : TypeId) (hroom : (l.length + 1) * 8 ≤ 140737488355328) :
    ∃ v' W', (Builtin.append_ #[45, 45] ty #[v, .slice (some ⟨W.heap.size, 0, none⟩) 1 1]).run Try.prog (W.alloc (.cells #[.int .i64 y] 3)) = .ok v' W' ∧ OwnI W' base v' (l ++ [y]) ∧ W.grownBy W' v.ownBlock ∧ (v'.ownBlock = v.ownBlock ∨ v'.ownBlock = some (W.heap.size + 1)) := by
  obtain ⟨i0, hi, hz0, hz1, hz2⟩ := info_parts info_int
  have h1 : (W.alloc (.cells #[.int .i64 y] 3)).ownsRow base 3 1 v l.length (ivals l) := h.below ((Below.refl _ _).alloc (Nat.le_refl _) _)
  have hc : (W.alloc (.cells #[.int .i64 y] 3)).cell? ⟨W.heap.size, 0, none⟩ = some (.int .i64 y) := cell_new _ _ _ _ _ rfl
  have hnews : ∀ (j : Nat) (x : Value), (ivals [y])[j]? = some x → (W.alloc (.cells #[.int .i64 y] 3)).cell? ((⟨W.heap.size, 0, none⟩ : Addr).add j) = some x := by
    intro j x hx
    match j, hx with
    | 0, hx =>
      obtain rfl : Value.int .i64 y = x := by simpa [ivals] using hx
      rw [Addr.add_lit]
      exact hc
    | j + 1, hx => simp [ivals] at hx
  have hone : ∀ u ∈ ivals [y], u.oneCell' = true := by
    intro u hu
    obtain rfl : u = .int .i64 y := by simpa [ivals] using hu
    rfl
  obtain ⟨v', W', hrun, h2, h3, _, h5⟩ := run_append_own_at (P := Try.prog) (W.alloc (.cells #[.int .i64 y] 3)) base 45 ty 3 i0 _ 1 8 Try.underlying45 hi hz0 hz1 hz2 rfl (by decide) v l.length (ivals l) h1 ⟨W.heap.size, 0, none⟩ 1 1 (ivals [y]) (ivals_length _) hnews hone (by simp only [maxLen]; omega) (by omega) (by simp; omega)
  refine ⟨v', W', hrun, ?_, (World.grownBy_alloc W _ _).trans h3, by simpa using h5⟩
  unfold OwnI
  rw [List.length_append, ivals_append]
  exact h2

theorem stored7 {W : World} {b : Nat} {a0 a1 a2 a3 a4 a5 a6 : Value} {T : TypeId} (h : W.heap[b]? = some (.cells #[a0, a1, a2, a3, a4, a5, a6] T)) (k0 k1 k2 k3 k4 k5 k6 : Value) :
    (((((((W.setCell ⟨b, 0, none⟩ k0).setCell ⟨b, 1, none⟩ k1).setCell ⟨b, 2, none⟩ k2).setCell ⟨b, 3, none⟩ k3).setCell ⟨b, 4, none⟩ k4).setCell ⟨b, 5, none⟩ k5).setCell ⟨b, 6, none⟩ k6).heap[b]? = some (.cells #[k0, k1, k2, k3, k4, k5, k6] T) := by
  simp [World.setCell, Array.getElem?_modify, h]
theorem set7_other {W : World} {b j : Nat} (h : j ≠ b) (k0 k1 k2 k3 k4 k5 k6 : Value) :
    (((((((W.setCell ⟨b, 0, none⟩ k0).setCell ⟨b, 1, none⟩ k1).setCell ⟨b, 2, none⟩ k2).setCell ⟨b, 3, none⟩ k3).setCell ⟨b, 4, none⟩ k4).setCell ⟨b, 5, none⟩ k5).setCell ⟨b, 6, none⟩ k6).heap[j]? = W.heap[j]? := by
  rw [Below.heap_setCell _ _ _ _ h, Below.heap_setCell _ _ _ _ h, Below.heap_setCell _ _ _ _ h, Below.heap_setCell _ _ _ _ h, Below.heap_setCell _ _ _ _ h, Below.heap_setCell _ _ _ _ h, Below.heap_setCell _ _ _ _ h]
theorem set7_size {W : World} {b : Nat} (k0 k1 k2 k3 k4 k5 k6 : Value) :
    (((((((W.setCell ⟨b, 0, none⟩ k0).setCell ⟨b, 1, none⟩ k1).setCell ⟨b, 2, none⟩ k2).setCell ⟨b, 3, none⟩ k3).setCell ⟨b, 4, none⟩ k4).setCell ⟨b, 5, none⟩ k5).setCell ⟨b, 6, none⟩ k6).heap.size = W.heap.size := by simp [World.setCell]
theorem grown_set (W : World) (b o : Nat) (v : Value) : W.grownBy (W.setCell ⟨b, o, none⟩ v) (some b) :=
  ⟨rfl, rfl, rfl, by simp [World.setCell], fun k _ hne => Below.heap_setCell _ _ _ _ (fun e => hne (by rw [e]))⟩
theorem set7_grown {W : World} {b : Nat} (k0 k1 k2 k3 k4 k5 k6 : Value) :
    W.grownBy (((((((W.setCell ⟨b, 0, none⟩ k0).setCell ⟨b, 1, none⟩ k1).setCell ⟨b, 2, none⟩ k2).setCell ⟨b, 3, none⟩ k3).setCell ⟨b, 4, none⟩ k4).setCell ⟨b, 5, none⟩ k5).setCell ⟨b, 6, none⟩ k6) (some b) :=
  ((((((grown_set _ _ _ _).trans (grown_set _ _ _ _)).trans (grown_set _ _ _ _)).trans (grown_set _ _ _ _)).trans (grown_set _ _ _ _)).trans (grown_set _ _ _ _)).trans (grown_set _ _ _ _)
theorem box7 {W : World} {b : Nat} {a0 a1 a2 a3 a4 a5 a6 : Value} {T : TypeId} (h : W.heap[b]? = some (.cells #[a0, a1, a2, a3, a4, a5, a6] T)) :
    (W.cell? ⟨b, 0, none⟩ = some a0 ∧ W.cell? ⟨b, 1, none⟩ = some a1 ∧ W.cell? ⟨b, 2, none⟩ = some a2 ∧ W.cell? ⟨b, 3, none⟩ = some a3 ∧ W.cell? ⟨b, 4, none⟩ = some a4 ∧ W.cell? ⟨b, 5, none⟩ = some a5 ∧ W.cell? ⟨b, 6, none⟩ = some a6) ∧
    W.frozen? ⟨b, 0, none⟩ = false ∧ W.frozen? ⟨b, 1, none⟩ = false ∧ W.frozen? ⟨b, 2, none⟩ = false ∧ W.frozen? ⟨b, 3, none⟩ = false ∧ W.frozen? ⟨b, 4, none⟩ = false ∧ W.frozen? ⟨b, 5, none⟩ = false ∧ W.frozen? ⟨b, 6, none⟩ = false := by
  refine ⟨⟨?_, ?_, ?_, ?_, ?_, ?_, ?_⟩, ?_, ?_, ?_, ?_, ?_, ?_, ?_⟩ <;> simp [World.cell?, World.frozen?, h]

/-- All are ints. -/
def allK (l : List Item) : Bool := l.all fun x => (x.kind : Int) == 0
theorem allK_iff {l : List Item} : allK l = true ↔ allInt l := by
  unfold allK allInt
  rw [List.all_eq_true]
  exact ⟨fun h x hx => beq_iff_eq.1 (h x hx), fun h x hx => beq_iff_eq.2 (h x hx)⟩
theorem take_snoc {α : Type} {l : List α} {k : Nat} {x : α} (h : l[k]? = some x) : l.take (k + 1) = l.take k ++ [x] := by
  have hk : k < l.length := (List.getElem?_eq_some_iff.1 h).1
  rw [List.take_succ_eq_append_getElem hk]
  rw [List.getElem?_eq_getElem hk, Option.some.injEq] at h
  rw [h]
theorem allK_snoc (l : List Item) (x : Item) : allK (l ++ [x]) = (allK l && ((x.kind : Int) == 0)) := by simp [allK]

end Go.Proofs.Ytffehnojcajhiaa.Wire.Entry

namespace Go.Proofs.Ytffehnojcajhiaa.Wire.Entry
open Go Go.RowKit Go.Proofs.Ytffehnojcajhiaa.Law

abbrev itemV (x : Item) (A : Option Addr) (c : Nat) : Value := .agg #[.int .i64 x.kind, .int .i64 x.n, .string x.s, .slice A x.kids.length c]
abbrev Z7 : Obj := .cells #[.int .i64 0, .slice none 0 0, .int .i64 0, .int .u32 0, .int .i64 0, .int .i64 0, .int .u32 0] 47

/-- An operator that was read, and whether it was one. -/
def RetOpr (w : World) (r : Option Opr) (e : Ending) (W : World) : Prop :=
  ∃ (o : Opr) (A : Option Addr) (n c : Nat), e = .returned (.tuple #[opV o (.slice A n c), .bool r.isSome]) ∧ (∀ o', r = some o' → o = o' ∧ IntsAt (fun k => w.heap.size ≤ k ∧ k < W.heap.size) W (.slice A n c) o.ins) ∧ Below w.heap.size w W

/-- What the world is behind the numbers: the note, the operator's block. -/
def OpS (w1 W : World) (nb ob : Nat) (q : Bool) (o : Opr) : Prop :=
  w1.grownBy W (some nb) ∧ BoolAt W nb q ∧ w1.heap.size ≤ ob ∧ OBox W ob o (.slice none 0 0)

set_option maxRecDepth 100000 in
set_option maxHeartbeats 1000000 in
theorem readOp_short (x : Item) (hx : x.kids.length ≠ 7) (A : Option Addr) (c : Nat) (w : World) : Calls Try.prog 62 #[itemV x A c] w (RetOpr w none) := by
  obtain ⟨n, hn⟩ : ∃ n, x.kids.length = n := ⟨_, rfl⟩
  unfold itemV
  rw [hn] at hx ⊢
  have hneb : ((n : Int) != 7) = true := by rw [bne_iff_ne]; omega
  obtain ⟨b, hb⟩ : ∃ b, w.heap.size = b := ⟨_, rfl⟩
  have hbox : ((w.alloc (.cells #[.int .i64 x.kind, .int .i64 x.n, .string x.s, .slice A n c] 71)).alloc Z7).heap[b + 1]? = some Z7 := by
    have := heap_alloc_new (w.alloc (.cells #[.int .i64 x.kind, .int .i64 x.n, .string x.s, .slice A n c] 71)) Z7
    rwa [World.size_alloc, hb] at this
  have hB : Below w.heap.size w ((w.alloc (.cells #[.int .i64 x.kind, .int .i64 x.n, .string x.s, .slice A n c] 71)).alloc Z7) := ((Below.refl _ _).alloc (Nat.le_refl _) _).alloc (by simp) _
  have HBX := Lib.hid hbox
  have HB := Lib.hid hB
  clear hbox hB hn hx
  go_enter Try.func62, Try.ntmps62
  go_wp2_with fail
  have hbox := HBX.out
  have hB := HB.out
  clear HBX HB
  generalize ((w.alloc (.cells #[.int .i64 x.kind, .int .i64 x.n, .string x.s, .slice A n c] 71)).alloc Z7) = W at hbox hB ⊢
  obtain ⟨⟨p0, p1, p2, p3, p4, p5, p6⟩, _⟩ := box7 hbox
  exact bodyPost_ret (v := .tuple #[.agg #[.int .i64 0, .slice none 0 0, .int .i64 0, .int .u32 0, .int .i64 0, .int .i64 0, .int .u32 0], .bool false]) (by simp [results, Try.results62, go_sem, p0, p1, p2, p3, p4, p5, p6]) rfl ⟨⟨0, [], 0, 0, 0, 0, 0⟩, none, 0, 0, rfl, (fun o' h => by cases h), hB⟩

end Go.Proofs.Ytffehnojcajhiaa.Wire.Entry

namespace Go.Proofs.Ytffehnojcajhiaa.Wire.Entry
open Go Go.RowKit Go.Proofs.Ytffehnojcajhiaa.Law

theorem grown_over {w1 W W' : World} {nb ob : Nat} (h : w1.grownBy W (some nb)) (h2 : W.grownBy W' (some ob)) (hob : w1.heap.size ≤ ob) : w1.grownBy W' (some nb) :=
  ⟨h2.os.trans h.os, h2.tape.trans h.tape, h2.output.trans h.output, Nat.le_trans h.size h2.size, fun k hk hne => (h2.block k (Nat.lt_of_lt_of_le hk h.size) (by simp only [ne_eq, Option.some.injEq]; omega)).trans (h.block k hk hne)⟩

/-- The six items that are taken, and the closure. -/
def Six (W : World) (ib io : Nat) (xk xa xm xr xt xl : Item) (A0 A2 A3 A4 A5 A6 : Option Addr) (l0 l2 l3 l4 l5 l6 c0 c2 c3 c4 c5 c6 fb nb : Nat) : Prop :=
  Cells4 W ib io xk (.slice A0 l0 c0) ∧ Cells4 W ib (io + 8) xa (.slice A2 l2 c2) ∧ Cells4 W ib (io + 12) xm (.slice A3 l3 c3) ∧ Cells4 W ib (io + 16) xr (.slice A4 l4 c4) ∧
  Cells4 W ib (io + 20) xt (.slice A5 l5 c5) ∧ Cells4 W ib (io + 24) xl (.slice A6 l6 c6) ∧ FuncAt W fb nb

theorem cellA {w : World} {b i : Nat} {v : Value} (h : w.cell? ⟨b, i, none⟩ = some v) (o : Obj) : (w.alloc o).cell? ⟨b, i, none⟩ = some v := (((Below.refl w.heap.size w).alloc (Nat.le_refl _) o).cell (p := ⟨b, i, none⟩) (block_lt_cell h)).trans h

theorem grown_drew {w W : World} {b : Option Nat} (h : w.grownBy W b) : w.grownBy W.drew b := ⟨h.os, h.tape, h.output, h.size, h.block⟩

def withIns (o : Opr) (l : List Int) : Opr := ⟨o.kind, l, o.arg, o.num, o.rounds, o.test, o.lim⟩

/-- What lies as the inputs are taken. -/
structure RdS (w W : World) (b ob : Nat) (q : Bool) (o : Opr) (A : Option Addr) (n c : Nat) : Prop where
  low : Below b w W
  note : BoolAt W (b + 1 + 1) q
  fn : FuncAt W (b + 1 + 1 + 1) (b + 1 + 1)
  res : W.heap[b + 1]? = some Z7
  box : OBox W ob o (.slice A n c)
  own : OwnI W (ob + 1) (.slice A n c) o.ins
  far : b + 1 + 1 + 1 < ob

theorem OBox.put {W : World} {ob : Nat} {o : Opr} {u : Value} (h : OBox W ob o u) (v : Value) (l : List Int) : OBox (W.setCell ⟨ob, 1, none⟩ v) ob (withIns o l) v := by
  unfold OBox at h ⊢
  simp [World.setCell, Array.getElem?_modify, h, withIns]

theorem RdS.next {w wr W1 W3 : World} {b ob : Nat} {q q' : Bool} {o : Opr} {A A' : Option Addr} {n n' c c' : Nat} {ins : List Int} (h : RdS w wr b ob q o A n c) (B : Obj) (hN : (wr.alloc B).drew.grownBy W1 (some (b + 1 + 1))) (hq : BoolAt W1 (b + 1 + 1) q')
    (hG : W1.grownBy W3 (Value.slice A n c).ownBlock) (hO : OwnI W3 (ob + 1) (.slice A' n' c') ins) : RdS w (W3.setCell ⟨ob, 1, none⟩ (.slice A' n' c')) b ob q' (withIns o ins) A' n' c' := by
  have hob := lt_of_some h.box
  have hfar := h.far
  have hs1 : wr.heap.size + 1 ≤ W1.heap.size := by have := hN.size; simpa using this
  have hown : ∀ g, (Value.slice A n c).ownBlock = some g → ob + 1 ≤ g := fun g hg => (h.own.own hg).1
  have hkeep : ∀ k, k < wr.heap.size → k ≠ b + 1 + 1 → k ≤ ob → W3.heap[k]? = wr.heap[k]? := fun k hk hne hle => by
    rw [hG.block k (by omega) (fun e => by have := hown k e.symm; omega), hN.block k (by simp; omega) (by simp only [ne_eq, Option.some.injEq]; omega)]
    exact Below.heap_alloc wr B k hk
  have hset : ∀ k, k ≠ ob → (W3.setCell ⟨ob, 1, none⟩ (.slice A' n' c')).heap[k]? = W3.heap[k]? := fun k hk => Below.heap_setCell _ _ _ _ hk
  have hnb : W3.heap[b + 1 + 1]? = W1.heap[b + 1 + 1]? := hG.block _ (by omega) (fun e => by have := hown _ e.symm; omega)
  have hlow : Below b wr W3 := by
    refine ⟨hG.os.trans hN.os, hG.tape.trans hN.tape, hG.output.trans hN.output, ?_, fun k hk => hkeep k (by omega) (by omega) (by omega)⟩
    have := hG.size
    omega
  refine ⟨(h.low.trans hlow).setCell (p := ⟨ob, 1, none⟩) (by show b ≤ ob; omega) _, ?_, ?_, ?_, ?_, ?_, hfar⟩
  · unfold BoolAt; rw [hset _ (by omega), hnb]; exact hq
  · unfold FuncAt; rw [hset _ (by omega), hkeep _ (by omega) (by omega) (by omega)]; exact h.fn
  · rw [hset _ (by omega), hkeep _ (by omega) (by omega) (by omega)]; exact h.res
  · have h3 : OBox W3 ob o (.slice A n c) := (hkeep ob hob (by omega) (Nat.le_refl _)).trans h.box
    exact h3.put _ ins
  · exact hO.keep fun g hg => hset g (by have := (hO.own hg).1; omega)

/-- What the answer is. -/
theorem rdOp_seven {x xk xi xa xm xr xt xl : Item} (hx : x.kids = [xk, xi, xa, xm, xr, xt, xl]) :
    (rdOp x).isSome = ((((((((((xi.kind : Int) == 2) && ((xk.kind : Int) == 0)) && ((xa.kind : Int) == 0)) && ((xm.kind : Int) == 0) && (small xm.n).isSome) && ((xr.kind : Int) == 0)) && ((xt.kind : Int) == 0)) && ((xl.kind : Int) == 0) && (small xl.n).isSome)) && allK xi.kids) ∧
    ∀ o, rdOp x = some o → o = ⟨xk.n, xi.kids.map Item.n, xa.n, (xm.n % 4294967296).toNat, xr.n, xt.n, (xl.n % 4294967296).toNat⟩ := by
  unfold rdOp
  rw [hx]
  dsimp only
  by_cases hc : xi.kind = 2 ∧ xk.kind = 0 ∧ xa.kind = 0 ∧ xm.kind = 0 ∧ xr.kind = 0 ∧ xt.kind = 0 ∧ xl.kind = 0 ∧ allInt xi.kids
  · rw [if_pos (bP_true hc)]
    obtain ⟨h1, h2, h3, h4, h5, h6, h7, h8⟩ := hc
    rw [allK_iff.2 h8]
    match hm : small xm.n, hl : small xl.n with
    | some mv, some lv =>
      rw [small_val hm, small_val hl]
      simp [h1, h2, h3, h4, h5, h6, h7]
    | some mv, none => simp
    | none, some lv => simp
    | none, none => simp
  · rw [if_neg (by rw [bP_false hc]; decide)]
    refine ⟨?_, fun o ho => by cases ho⟩
    symm
    by_cases h8 : allInt xi.kids
    · simp only [Option.isSome_none, Bool.and_eq_false_iff, beq_eq_false_iff_ne]
      by_cases h1 : xi.kind = 2 <;> by_cases h2 : xk.kind = 0 <;> by_cases h3 : xa.kind = 0 <;> by_cases h4 : xm.kind = 0 <;> by_cases h5 : xr.kind = 0 <;> by_cases h6 : xt.kind = 0 <;> by_cases h7 : xl.kind = 0 <;> simp [h1, h2, h3, h4, h5, h6, h7]
      exact absurd ⟨h1, h2, h3, h4, h5, h6, h7, h8⟩ hc
    · have : allK xi.kids = false := by
        cases hq : allK xi.kids with
        | false => rfl
        | true => exact absurd (allK_iff.1 hq) h8
      rw [this, Bool.and_false]
      rfl

end Go.Proofs.Ytffehnojcajhiaa.Wire.Entry
