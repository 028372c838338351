/-
  The walk of the law ModelEpochs.
-/
import Derived.Test.YtkofipbkfniplaaModelEpochsLeaf
import Derived.Test.YtkofipbkfniplaaModelAloneMath
import Derived.Laws.BitsAllLaws
import Derived.Deep.Cut
import Derived.Deep.RegionHeld3
namespace Go.Proofs.Ytkofipbkfniplaa.Model
open Go Go.RowKit Go.Lib Go.Sort Go.Shelf Go.Maps Go.Proofs.Ytkofipbkfniplaa.Law Go.Proofs.Ytkofipbkfniplaa.Graph Go.Proofs.Ytkofipbkfniplaa.Fold

theorem place_upto (z : Int) (len : Nat) (h0 : 0 < len) (h1 : len ≤ 140737488351232) : ∃ s : Nat, s < len ∧ wrap64 ((IntKind.u64.wrap z).tmod (len : Int)) = (s : Int) := by
  have h2 : 0 ≤ IntKind.u64.wrap z := by unfold IntKind.wrap; simp [IntKind.signed]; omega
  have h3 : (IntKind.u64.wrap z).tmod (len : Int) = IntKind.u64.wrap z % (len : Int) := Int.tmod_eq_emod_of_nonneg h2
  have h4 : 0 ≤ IntKind.u64.wrap z % (len : Int) := Int.emod_nonneg _ (by omega)
  have h5 : IntKind.u64.wrap z % (len : Int) < (len : Int) := Int.emod_lt_of_pos _ (by omega)
  refine ⟨(IntKind.u64.wrap z % (len : Int)).toNat, by omega, ?_⟩
  rw [h3, IntWalk.wrap64_in _ ⟨by omega, by omega⟩]
  omega
/-- What stays: what lay, the graph, its box. -/
def EnvE (w : World) (b r : Nat) (x : Int) (W : World) : Prop := Below w.heap.size w W ∧ SumAt W b x ∧ W.heap[r]? = some (gObj (.slice (some ⟨b + 1 + 1, 0, none⟩) 3 3)) ∧ w.heap.size ≤ r
theorem EnvE.next {w W W' : World} {b r : Nat} {x : Int} (h : EnvE w b r x W) (hB : Below W.heap.size W W') : EnvE w b r x W' :=
  ⟨h.1.trans (hB.mono h.1.size), h.2.1.below hB, (hB.block _ (lt_of_some h.2.2.1)).trans h.2.2.1, h.2.2.2⟩
/-- A box that holds a state's lists. -/
def StBox (W : World) (t : Nat) (s : List (List Pr)) : Prop := ∃ A c, W.heap[t]? = some (sObj (.slice A s.length c)) ∧ OldF W.heap.size W (.slice A s.length c) s
theorem StBox.next {W W' : World} {t : Nat} {s : List (List Pr)} (h : StBox W t s) (hB : Below W.heap.size W W') : StBox W' t s := by
  obtain ⟨A, c, h1, h2⟩ := h
  exact ⟨A, c, (hB.block _ (lt_of_some h1)).trans h1, FoldsAt.on hB h2⟩

set_option maxRecDepth 100000 in
set_option maxHeartbeats 16000000 in
theorem modelEpochs_law (which cut : Int) (recs : List Rc) (hwr : wfR recs) (rv : Value) (w : World) (hR : OldRc w.heap.size w rv recs) :
    Calls Try.prog 5 #[.int .i64 which, rv, .int .i64 cut] w (RetB w true) := by
  obtain ⟨RA, rcap, rfl, hrc⟩ := hR.form
  obtain ⟨n, hn⟩ : ∃ n, recs.length = n := ⟨_, rfl⟩
  rw [hn] at hR hrc ⊢
  have HN := Lib.hid hn
  have HRR := Lib.hid hR
  have HWR := Lib.hid hwr
  have CK := Lib.hid (known_calls w)
  have CSU := Lib.hid fun W => sums_calls W
  obtain ⟨x, hx7, hx⟩ := place_upto which 7 (by omega) (by omega)
  have HX : Hid (wrap64 ((IntKind.u64.wrap which).tmod 7) = (x : Int)) := Lib.hid hx
  have hx0 : (0 : Int) ≤ (x : Int) := by omega
  have hx1 : (x : Int) < 7 := by omega
  clear hn hR hwr hx
  go_enter Try.func5, Try.ntmps5
  go_wp2_with fail
  refine CK.out.mono ?_
  rintro e w1 ⟨rfl, hB1⟩
  go_wp2_with fail
  refine (CSU.out w1).mono ?_
  rintro e w2 ⟨rfl, hS2, hB2⟩
  obtain ⟨b, hb⟩ : ∃ b, w1.heap.size + 1 = b := ⟨_, rfl⟩
  rw [hb] at hS2 ⊢
  have hBw2 : Below w.heap.size w w2 := hB1.trans (hB2.mono hB1.size)
  have hA2 : Below w2.heap.size w2 (w2.alloc (gObj (.slice (some ⟨b + 1 + 1, 0, none⟩) 3 3))) := (Below.refl _ _).alloc (Nat.le_refl _) _
  have hS3 := hS2.below hA2
  have g0 : (w2.alloc (gObj (.slice (some ⟨b + 1 + 1, 0, none⟩) 3 3))).cell? ⟨w2.heap.size, 0, none⟩ = some (.slice (some ⟨b + 1 + 1, 0, none⟩) 3 3) := (box1 (heap_alloc_new w2 _)).1
  have g9 : (w2.alloc (gObj (.slice (some ⟨b + 1 + 1, 0, none⟩) 3 3))).cell? ⟨b + 1 + 1, 9, none⟩ = some (.int .i64 0) := by simp [World.cell?, hS3.2.2]
  have f9 : (w2.alloc (gObj (.slice (some ⟨b + 1 + 1, 0, none⟩) 3 3))).frozen? ⟨b + 1 + 1, 9, none⟩ = false := by simp [World.frozen?, hS3.2.2]
  have hr3 : (w2.alloc (gObj (.slice (some ⟨b + 1 + 1, 0, none⟩) 3 3))).heap[w2.heap.size]? = some (gObj (.slice (some ⟨b + 1 + 1, 0, none⟩) 3 3)) := heap_alloc_new w2 _
  have hblt : w1.heap.size < b := by omega
  have hb2 : b + 1 + 1 < w2.heap.size := lt_of_some hS2.2.2
  have hsz : (w2.setCell ⟨b + 1 + 1, 9, none⟩ (.int .i64 (x : Int))).heap.size = w2.heap.size := by simp [World.setCell]
  have hA4 : Below w2.heap.size (w2.setCell ⟨b + 1 + 1, 9, none⟩ (.int .i64 (x : Int))) ((w2.setCell ⟨b + 1 + 1, 9, none⟩ (.int .i64 (x : Int))).alloc (gObj (.slice (some ⟨b + 1 + 1, 0, none⟩) 3 3))) := (Below.refl _ _).alloc (by rw [hsz]; exact Nat.le_refl _) _
  have HE4 : Hid (EnvE w b w2.heap.size x ((w2.setCell ⟨b + 1 + 1, 9, none⟩ (.int .i64 (x : Int))).alloc (gObj (.slice (some ⟨b + 1 + 1, 0, none⟩) 3 3)))) := Lib.hid ⟨
    (hBw2.setCell (p := ⟨b + 1 + 1, 9, none⟩) (by show w.heap.size ≤ b + 1 + 1; have := hB1.size; omega) _).trans (hA4.mono hBw2.size), (hS2.set x).below (by rw [hsz]; exact hA4), by
      have := heap_alloc_new (w2.setCell ⟨b + 1 + 1, 9, none⟩ (.int .i64 (x : Int))) (gObj (.slice (some ⟨b + 1 + 1, 0, none⟩) 3 3))
      rwa [hsz] at this, hBw2.size⟩
  clear hS2 hS3 hBw2 hA2 hA4 hsz hr3 hB1 hB2 hblt CK
  go_upto_region 5 with fail
  rw [HX.out]
  clear g0 g9 f9 hb2 hb
  generalize w2.heap.size = r at HE4 ⊢
  generalize (w2.setCell ⟨b + 1 + 1, 9, none⟩ (.int .i64 (x : Int))).alloc (gObj (.slice (some ⟨b + 1 + 1, 0, none⟩) 3 3)) = W4 at HE4 ⊢
  by_cases h512 : n ≤ 512
  · have hd : ¬ (n : Int) > 512 := by omega
    obtain ⟨c, hcn, hc⟩ := place_upto cut (n + 1) (by omega) (by omega)
    rw [Int.natCast_add] at hc
    have HC : Hid (wrap64 ((IntKind.u64.wrap cut).tmod ((n : Int) + 1)) = (c : Int)) := Lib.hid hc
    have hnz : (n : Int) + 1 ≠ 0 := by omega
    have hu1 : IntKind.u64.wrap ((n : Int) + 1) = (n : Int) + 1 := by
      unfold IntKind.wrap; simp [IntKind.signed, IntKind.bits]; omega
    have hi1 : IntKind.i64.wrap ((n : Int) + 1) = (n : Int) + 1 := by rw [IntKind.wrap_i64]; omega
    clear hc
    go_upto_region 8 with fail
    rw [HC.out]
    clear hnz hu1 hi1 hd
    have hcle : c ≤ n := by omega
    have hc512 : n * 48 ≤ 140737488351232 := by omega
    have q0 : W4.cell? ⟨r, 0, none⟩ = some (.slice (some ⟨b + 1 + 1, 0, none⟩) 3 3) := (box1 HE4.out.2.2.1).1
    have C1 := Lib.hid (sumRun_calls (x := x) (st := []) (by simp) (fun p h => by cases h) (fun p h => by cases h) HWR.out (by rw [HN.out]; exact hc512) b (.slice none 0 0) (.slice RA n rcap) W4 HE4.out.2.1 (FoldsAt.nil _ _) ((RecsAt.low HE4.out.1 HRR.out).mono fun _ hb => Nat.lt_of_lt_of_le hb HE4.out.1.size))
    go_wp2_with fail
    refine C1.out.mono ?_
    rintro e w5 ⟨lv, sv, e1, l, s, rfl, hrun1, hL, hS, hB5⟩
    obtain ⟨LA, lc, rfl, _⟩ := hL.form
    obtain ⟨SA, sc, rfl, _⟩ := hS.form
    have hE5 := HE4.out.next hB5
    have hA5 : Below w5.heap.size w5 (w5.alloc (sObj (.slice SA s.length sc))) := (Below.refl _ _).alloc (Nat.le_refl _) _
    have HE6 : Hid (EnvE w b r x (w5.alloc (sObj (.slice SA s.length sc))) ∧ StBox (w5.alloc (sObj (.slice SA s.length sc))) w5.heap.size s ∧ OldP (w5.alloc (sObj (.slice SA s.length sc))).heap.size (w5.alloc (sObj (.slice SA s.length sc))) (.slice LA l.length lc) l) :=
      Lib.hid ⟨hE5.next hA5, ⟨SA, sc, heap_alloc_new w5 _, FoldsAt.on hA5 hS.old⟩, TwoAt.on hA5 hL.old⟩
    have HR1 := Lib.hid hrun1
    clear hE5 hA5 hL hS hB5 hrun1 C1 q0
    go_upto_region 9 with fail
    generalize w5.heap.size = t9 at HE6 ⊢
    generalize w5.alloc (sObj (.slice SA s.length sc)) = W6 at HE6 ⊢
    go_cut [11, 12, 13] from 51 (fun s11 s12 s13 wx => ∃ (t12 : Nat) (e2 : Int) (ov : Value) (o : List Pr) (a : List (List Pr)), ov = s11 ∧ s12 = .pointer (some ⟨t12, 0, none⟩) ∧ s13 = .int .i64 e2 ∧
      Hid (RunR (sumG x) [] (recs.take c) e2 o a ∧ StBox wx t12 a ∧ Below W6.heap.size W6 wx))
    case first =>
      obtain ⟨v2, hv2, hV2⟩ := run_ahead_recs (RecsAt.low HE6.out.1.1 HRR.out) .i64 (k := c) hcle
      have q0 : W6.cell? ⟨r, 0, none⟩ = some (.slice (some ⟨b + 1 + 1, 0, none⟩) 3 3) := (box1 HE6.out.1.2.2.1).1
      have RUNC : ∀ V, Below W6.heap.size W6 V → Calls Try.prog 16 #[.agg #[.slice (some ⟨b + 1 + 1, 0, none⟩) 3 3], .agg #[.slice none 0 0], v2] V (RetRun (sumG x) [] (recs.take c) V) := fun V hV =>
        sumRun_calls (x := x) (st := []) (by simp) (fun p h => by cases h) (fun p h => by cases h) (fun r hr => HWR.out r (List.mem_of_mem_take hr)) (by rw [List.length_take]; omega) b (.slice none 0 0) v2 V (HE6.out.1.next hV).2.1 (FoldsAt.nil _ _) (hV2.keep (fun k hk => hV.block k (Nat.lt_of_lt_of_le hk HE6.out.1.1.size)) (fun k hk => Nat.lt_of_lt_of_le hk (HE6.out.1.next hV).1.size))
      have CR : Hid (∀ V, Below W6.heap.size W6 V → Calls Try.prog 16 #[.agg #[.slice (some ⟨b + 1 + 1, 0, none⟩) 3 3], .agg #[.slice none 0 0], v2] V fun e V' =>
          ∃ pA pn pk fA fk er o a, e = .returned (.tuple #[.slice pA pn pk, .agg #[.slice fA a.length fk], .int .i64 er]) ∧ Hid (RunR (sumG x) [] (recs.take c) er o a ∧ OwnP V' V.heap.size (.slice pA pn pk) o ∧ FoldsOwn V' V.heap.size (.slice fA a.length fk) a) ∧ Below W6.heap.size W6 V' ∧ V'.cell? ⟨r, 0, none⟩ = some (.slice (some ⟨b + 1 + 1, 0, none⟩) 3 3) ∧ Hid (Below V.heap.size V V')) := Lib.hid fun V hV => by
        have hEV := HE6.out.1.next hV
        refine (RUNC V hV).mono ?_
        rintro e V' ⟨pv, fv, er, o, a, rfl, hrun, hP, hF, hBV⟩
        obtain ⟨pA, pk, rfl, _⟩ := hP.form
        obtain ⟨fA, fk, rfl, _⟩ := hF.form
        exact ⟨pA, _, pk, fA, fk, er, o, a, rfl, Lib.hid ⟨hrun, hP, hF⟩, hV.trans (hBV.mono hV.size), (box1 (hEV.next hBV).2.2.1).1, Lib.hid hBV⟩
      have CR0 : Hid (Calls Try.prog 16 #[.agg #[.slice (some ⟨b + 1 + 1, 0, none⟩) 3 3], .agg #[.slice none 0 0], v2] (W6.alloc (sObj (.slice none 0 0))).drew fun e V' =>
          ∃ pA pn pk fA fk er o a, e = .returned (.tuple #[.slice pA pn pk, .agg #[.slice fA a.length fk], .int .i64 er]) ∧ Hid (RunR (sumG x) [] (recs.take c) er o a ∧ OwnP V' (W6.heap.size + 1) (.slice pA pn pk) o ∧ FoldsOwn V' (W6.heap.size + 1) (.slice fA a.length fk) a ∧ V'.heap[W6.heap.size]? = some (sObj (.slice none 0 0))) ∧ Below W6.heap.size W6 V' ∧ V'.cell? ⟨r, 0, none⟩ = some (.slice (some ⟨b + 1 + 1, 0, none⟩) 3 3) ∧ V'.cell? ⟨W6.heap.size, 0, none⟩ = some (.slice none 0 0) ∧ V'.frozen? ⟨W6.heap.size, 0, none⟩ = false) := Lib.hid (by
        have hz : (W6.alloc (sObj (.slice none 0 0))).drew.heap[W6.heap.size]? = some (sObj (.slice none 0 0)) := heap_alloc_new W6 _
        have hzs : (W6.alloc (sObj (.slice none 0 0))).drew.heap.size = W6.heap.size + 1 := World.size_alloc W6 _
        refine (CR.out (W6.alloc (sObj (.slice none 0 0))).drew (((Below.refl _ _).alloc (Nat.le_refl _) _).drew)).mono ?_
        rintro e V' ⟨pA, pn, pk, fA, fk, er, o, a, he, hh, b9, k9, hBV⟩
        have hz9 := (hBV.out.block W6.heap.size (by rw [hzs]; omega)).trans hz
        exact ⟨pA, pn, pk, fA, fk, er, o, a, he, Lib.hid (by have h := hh.out; rw [hzs] at h; exact ⟨h.1, h.2.1, h.2.2, hz9⟩), b9, k9, (box1 hz9).1, (box1 hz9).2⟩)
      have hBd : Below W6.heap.size W6 W6.drew := (Below.refl _ _).drew
      have hBA : ∀ (V : World) (o : Obj), Below W6.heap.size W6 V → Below W6.heap.size W6 (V.alloc o) := fun V o h => h.alloc h.size o
      have hBS : ∀ (V : World) (v : Value), Below W6.heap.size W6 V → Below W6.heap.size W6 (V.setCell ⟨W6.heap.size, 0, none⟩ v) := fun V v h => h.setCell (p := ⟨W6.heap.size, 0, none⟩) (Nat.le_refl _) v
      have hBQ : ∀ (V : World), Below W6.heap.size W6 V → V.cell? ⟨r, 0, none⟩ = some (.slice (some ⟨b + 1 + 1, 0, none⟩) 3 3) := fun V h => (box1 (HE6.out.1.next h).2.2.1).1
      go_region_held3 (fun w' => Below W6.heap.size W6 w' ∧ w'.cell? ⟨r, 0, none⟩ = some (.slice (some ⟨b + 1 + 1, 0, none⟩) 3 3)) (first | exact ⟨by assumption, hBQ _ (by assumption)⟩ | exact ⟨hBd, hBQ _ hBd⟩ | exact ⟨hBA _ _ (by assumption), hBQ _ (hBA _ _ (by assumption))⟩ | exact ⟨hBA _ _ hBd, hBQ _ (hBA _ _ hBd)⟩ | exact ⟨hBS _ _ (by assumption), hBQ _ (hBS _ _ (by assumption))⟩ | assumption | go_keep) (first
        | (go_at_call 16; (with_reducible refine CR0.out.mono ?_); rintro e W9 ⟨pA, pn, pk, fA, fk, er, o, a, rfl, hh, b9, k9, z9, y9⟩)
        | (go_at_call 16; (refine (CR.out _ (by first | assumption | exact hBd | exact hBA _ _ hBd)).mono ?_); rintro e W9 ⟨pA, pn, pk, fA, fk, er, o, a, rfl, hh, b9, k9, hBV⟩))
      · obtain ⟨h1, h2, h3⟩ := hh.out
        have hAl : Below W9.heap.size W9 (W9.alloc (sObj (.slice fA a.length fk))) := (Below.refl _ _).alloc (Nat.le_refl _) _
        have hST : StBox (W9.alloc (sObj (.slice fA a.length fk))) W9.heap.size a := ⟨fA, fk, heap_alloc_new W9 _, FoldsAt.on hAl h3.old⟩
        have hPP : OldP (W9.alloc (sObj (.slice fA a.length fk))).heap.size (W9.alloc (sObj (.slice fA a.length fk))) (.slice pA pn pk) o := TwoAt.on hAl h2.old
        have HALL := Lib.hid (And.intro h1 (And.intro hST (And.intro hPP (hBA _ (sObj (.slice fA a.length fk)) b9))))
        clear hAl hST hPP h1 h2 h3 hh
        go_wp2_with fail
        go_meet
        case rel => exact ⟨_, er, _, o, a, rfl, rfl, rfl, Lib.hid ⟨HALL.out.1, HALL.out.2.1, HALL.out.2.2.2⟩⟩
      · obtain ⟨h1, h2, h3, hbx⟩ := hh.out
        have hBl : ∀ k, W6.heap.size + 1 ≤ k → (W9.setCell ⟨W6.heap.size, 0, none⟩ (.slice fA a.length fk)).heap[k]? = W9.heap[k]? := fun k hk => Below.heap_setCell _ _ _ _ (by show k ≠ W6.heap.size; omega)
        have hsz9 : (W9.setCell ⟨W6.heap.size, 0, none⟩ (.slice fA a.length fk)).heap.size = W9.heap.size := by simp [World.setCell]
        have hST : StBox (W9.setCell ⟨W6.heap.size, 0, none⟩ (.slice fA a.length fk)) W6.heap.size a := ⟨fA, fk, by rw [setCell_eq_setRow _ _ _ _ _ _ _ hbx]; exact setRow_heap _ _ _ _ _ _ hbx, (h3.keep fun k hk _ => hBl k hk).old⟩
        have hPP : OldP (W9.setCell ⟨W6.heap.size, 0, none⟩ (.slice fA a.length fk)).heap.size (W9.setCell ⟨W6.heap.size, 0, none⟩ (.slice fA a.length fk)) (.slice pA pn pk) o := (h2.keep fun k hk => hBl k (h2.own hk).1).old
        have HALL := Lib.hid (And.intro h1 (And.intro hST (And.intro hPP (hBS _ (.slice fA a.length fk) b9))))
        clear hBl hsz9 hbx hST hPP h1 h2 h3 hh
        go_wp2_with fail
        go_meet
        case rel => exact ⟨_, er, _, o, a, rfl, rfl, rfl, Lib.hid ⟨HALL.out.1, HALL.out.2.1, HALL.out.2.2.2⟩⟩
    case rest =>
      obtain ⟨t12, e2, ov, o2, a2, rfl, rfl, rfl, HM⟩ := hcut
      obtain ⟨wB, rfl⟩ : ∃ y, y = wc := ⟨_, rfl⟩
      have HE10 : Hid (EnvE w b r x wB) := Lib.hid (HE6.out.1.next HM.out.2.2)
      obtain ⟨-, -, ha2⟩ := sum_run hx0 hx1 (.inl ⟨rfl, rfl⟩) (by rw [List.length_take]; omega) HM.out.1
      rw [behindN_nil (folded_rising _ _ _)] at ha2
      have hF2 : (foldedN x (takenN (-1) (recs.take c)) []).length ≤ 512 := by
        have h1 := folded_len x (takenN (-1) (recs.take c)) []
        have h2 := taken_len (recs.take c)
        have h3 : (recs.take c).length ≤ c := by rw [List.length_take]; omega
        omega
      have hW2 : wfP (foldedN (x : Int) (takenN (-1) (recs.take c)) []) := folded_wf (fun r hr => HWR.out r (List.mem_of_mem_take hr))
      have HA2 : Hid (a2.length * 24 ≤ 140737488351232 ∧ (∀ p ∈ a2, p.length * 24 ≤ 140737488351232) ∧ ∀ p ∈ a2, wfP p) := Lib.hid (by
        rw [ha2]
        refine ⟨by simp, fun p hp => ?_, fun p hp => ?_⟩
        · simp only [List.mem_cons, List.not_mem_nil, or_false] at hp
          rcases hp with rfl | rfl | rfl
          · simp
          · omega
          · simp
        · simp only [List.mem_cons, List.not_mem_nil, or_false] at hp
          rcases hp with rfl | rfl | rfl
          · exact wfP.nil
          · exact hW2
          · exact wfP.nil)
      clear ha2 hF2 hW2
      obtain ⟨A2, c2, hbx2, hold2⟩ := HM.out.2.1
      obtain ⟨al, hal⟩ : ∃ al, a2.length = al := ⟨_, rfl⟩
      rw [hal] at hbx2 hold2
      go_upto_region 10 with fail
      go_cut [14, 15, 16] from 61 (fun s14 s15 s16 wx => ∃ (t15 : Nat) (e3 : Int) (MA : Option Addr) (ml mc : Nat) (m : List Pr) (b3 : List (List Pr)), s14 = .slice MA ml mc ∧ s15 = .pointer (some ⟨t15, 0, none⟩) ∧ s16 = .int .i64 e3 ∧
        Hid (RunR (sumG x) a2 (recs.drop c) e3 m b3 ∧ StBox wx t15 b3 ∧ OldP wx.heap.size wx (.slice MA ml mc) m ∧ Below wB.heap.size wB wx))
      case first =>
        obtain ⟨v3, hv3, hV3⟩ := run_behind_recs (RecsAt.low HE10.out.1 HRR.out) .i64 (k := c) hcle
        have q0 : wB.cell? ⟨r, 0, none⟩ = some (.slice (some ⟨b + 1 + 1, 0, none⟩) 3 3) := (box1 HE10.out.2.2.1).1
        have q2 : wB.cell? ⟨t12, 0, none⟩ = some (.slice A2 al c2) := (box1 hbx2).1
        have RUNC : ∀ V, Below wB.heap.size wB V → Calls Try.prog 16 #[.agg #[.slice (some ⟨b + 1 + 1, 0, none⟩) 3 3], .agg #[.slice A2 al c2], v3] V (RetRun (sumG x) a2 (recs.drop c) V) := fun V hV =>
          sumRun_calls (x := x) (st := a2) HA2.out.1 HA2.out.2.1 HA2.out.2.2 (fun r hr => HWR.out r (List.mem_of_mem_drop hr)) (by rw [List.length_drop, HN.out]; omega) b (.slice A2 al c2) v3 V (HE10.out.next hV).2.1 (FoldsAt.on hV hold2) (hV3.keep (fun k hk => hV.block k (Nat.lt_of_lt_of_le hk HE10.out.1.size)) (fun k hk => Nat.lt_of_lt_of_le hk (HE10.out.next hV).1.size))
        have CR : Hid (∀ V, Below wB.heap.size wB V → Calls Try.prog 16 #[.agg #[.slice (some ⟨b + 1 + 1, 0, none⟩) 3 3], .agg #[.slice A2 al c2], v3] V fun e V' =>
            ∃ pA pn pk fA fk er o a, e = .returned (.tuple #[.slice pA pn pk, .agg #[.slice fA a.length fk], .int .i64 er]) ∧ Hid (RunR (sumG x) a2 (recs.drop c) er o a ∧ OwnP V' V.heap.size (.slice pA pn pk) o ∧ FoldsOwn V' V.heap.size (.slice fA a.length fk) a) ∧ Below wB.heap.size wB V' ∧ V'.cell? ⟨r, 0, none⟩ = some (.slice (some ⟨b + 1 + 1, 0, none⟩) 3 3) ∧ Hid (Below V.heap.size V V')) := Lib.hid fun V hV => by
          have hEV := HE10.out.next hV
          refine (RUNC V hV).mono ?_
          rintro e V' ⟨pv, fv, er, o, a, rfl, hrun, hP, hF, hBV⟩
          obtain ⟨pA, pk, rfl, _⟩ := hP.form
          obtain ⟨fA, fk, rfl, _⟩ := hF.form
          exact ⟨pA, _, pk, fA, fk, er, o, a, rfl, Lib.hid ⟨hrun, hP, hF⟩, hV.trans (hBV.mono hV.size), (box1 (hEV.next hBV).2.2.1).1, Lib.hid hBV⟩
        have CR0 : Hid (Calls Try.prog 16 #[.agg #[.slice (some ⟨b + 1 + 1, 0, none⟩) 3 3], .agg #[.slice A2 al c2], v3] (wB.alloc (sObj (.slice none 0 0))).drew fun e V' =>
            ∃ pA pn pk fA fk er o a, e = .returned (.tuple #[.slice pA pn pk, .agg #[.slice fA a.length fk], .int .i64 er]) ∧ Hid (RunR (sumG x) a2 (recs.drop c) er o a ∧ OwnP V' (wB.heap.size + 1) (.slice pA pn pk) o ∧ FoldsOwn V' (wB.heap.size + 1) (.slice fA a.length fk) a ∧ V'.heap[wB.heap.size]? = some (sObj (.slice none 0 0))) ∧ Below wB.heap.size wB V' ∧ V'.cell? ⟨r, 0, none⟩ = some (.slice (some ⟨b + 1 + 1, 0, none⟩) 3 3) ∧ V'.cell? ⟨wB.heap.size, 0, none⟩ = some (.slice none 0 0) ∧ V'.frozen? ⟨wB.heap.size, 0, none⟩ = false) := Lib.hid (by
          have hz : (wB.alloc (sObj (.slice none 0 0))).drew.heap[wB.heap.size]? = some (sObj (.slice none 0 0)) := heap_alloc_new wB _
          have hzs : (wB.alloc (sObj (.slice none 0 0))).drew.heap.size = wB.heap.size + 1 := World.size_alloc wB _
          refine (CR.out (wB.alloc (sObj (.slice none 0 0))).drew (((Below.refl _ _).alloc (Nat.le_refl _) _).drew)).mono ?_
          rintro e V' ⟨pA, pn, pk, fA, fk, er, o, a, he, hh, b9, k9, hBV⟩
          have hz9 := (hBV.out.block wB.heap.size (by rw [hzs]; omega)).trans hz
          exact ⟨pA, pn, pk, fA, fk, er, o, a, he, Lib.hid (by have h := hh.out; rw [hzs] at h; exact ⟨h.1, h.2.1, h.2.2, hz9⟩), b9, k9, (box1 hz9).1, (box1 hz9).2⟩)
        have hBd : Below wB.heap.size wB wB.drew := (Below.refl _ _).drew
        have hBA : ∀ (V : World) (o : Obj), Below wB.heap.size wB V → Below wB.heap.size wB (V.alloc o) := fun V o h => h.alloc h.size o
        have hBS : ∀ (V : World) (v : Value), Below wB.heap.size wB V → Below wB.heap.size wB (V.setCell ⟨wB.heap.size, 0, none⟩ v) := fun V v h => h.setCell (p := ⟨wB.heap.size, 0, none⟩) (Nat.le_refl _) v
        have hBQ : ∀ (V : World), Below wB.heap.size wB V → V.cell? ⟨r, 0, none⟩ = some (.slice (some ⟨b + 1 + 1, 0, none⟩) 3 3) := fun V h => (box1 (HE10.out.next h).2.2.1).1
        have hBT : ∀ (V : World), Below wB.heap.size wB V → V.cell? ⟨t12, 0, none⟩ = some (.slice A2 al c2) := fun V h => (box1 ((h.block _ (lt_of_some hbx2)).trans hbx2)).1
        go_region_held3 (fun w' => Below wB.heap.size wB w' ∧ w'.cell? ⟨r, 0, none⟩ = some (.slice (some ⟨b + 1 + 1, 0, none⟩) 3 3) ∧ w'.cell? ⟨t12, 0, none⟩ = some (.slice A2 al c2)) (first | exact ⟨by assumption, hBQ _ (by assumption), hBT _ (by assumption)⟩ | exact ⟨hBd, hBQ _ hBd, hBT _ hBd⟩ | exact ⟨hBA _ _ (by assumption), hBQ _ (hBA _ _ (by assumption)), hBT _ (hBA _ _ (by assumption))⟩ | exact ⟨hBA _ _ hBd, hBQ _ (hBA _ _ hBd), hBT _ (hBA _ _ hBd)⟩ | exact ⟨hBS _ _ (by assumption), hBQ _ (hBS _ _ (by assumption)), hBT _ (hBS _ _ (by assumption))⟩ | assumption | go_keep) (first
          | (go_at_call 16; (with_reducible refine CR0.out.mono ?_); rintro e W9 ⟨pA, pn, pk, fA, fk, er, o, a, rfl, hh, b9, k9, z9, y9⟩)
          | (go_at_call 16; (refine (CR.out _ (by first | assumption | exact hBd | exact hBA _ _ hBd)).mono ?_); rintro e W9 ⟨pA, pn, pk, fA, fk, er, o, a, rfl, hh, b9, k9, hBV⟩))
        · obtain ⟨h1, h2, h3⟩ := hh.out
          have hAl : Below W9.heap.size W9 (W9.alloc (sObj (.slice fA a.length fk))) := (Below.refl _ _).alloc (Nat.le_refl _) _
          have hST : StBox (W9.alloc (sObj (.slice fA a.length fk))) W9.heap.size a := ⟨fA, fk, heap_alloc_new W9 _, FoldsAt.on hAl h3.old⟩
          have hPP : OldP (W9.alloc (sObj (.slice fA a.length fk))).heap.size (W9.alloc (sObj (.slice fA a.length fk))) (.slice pA pn pk) o := TwoAt.on hAl h2.old
          have HALL := Lib.hid (And.intro h1 (And.intro hST (And.intro hPP (hBA _ (sObj (.slice fA a.length fk)) b9))))
          clear hAl hST hPP h1 h2 h3 hh
          go_wp2_with fail
          go_meet
          case rel => exact ⟨_, er, pA, pn, pk, o, a, rfl, rfl, rfl, Lib.hid ⟨HALL.out.1, HALL.out.2.1, HALL.out.2.2.1, HALL.out.2.2.2⟩⟩
        · obtain ⟨h1, h2, h3, hbx⟩ := hh.out
          have hBl : ∀ k, wB.heap.size + 1 ≤ k → (W9.setCell ⟨wB.heap.size, 0, none⟩ (.slice fA a.length fk)).heap[k]? = W9.heap[k]? := fun k hk => Below.heap_setCell _ _ _ _ (by show k ≠ wB.heap.size; omega)
          have hsz9 : (W9.setCell ⟨wB.heap.size, 0, none⟩ (.slice fA a.length fk)).heap.size = W9.heap.size := by simp [World.setCell]
          have hST : StBox (W9.setCell ⟨wB.heap.size, 0, none⟩ (.slice fA a.length fk)) wB.heap.size a := ⟨fA, fk, by rw [setCell_eq_setRow _ _ _ _ _ _ _ hbx]; exact setRow_heap _ _ _ _ _ _ hbx, (h3.keep fun k hk _ => hBl k hk).old⟩
          have hPP : OldP (W9.setCell ⟨wB.heap.size, 0, none⟩ (.slice fA a.length fk)).heap.size (W9.setCell ⟨wB.heap.size, 0, none⟩ (.slice fA a.length fk)) (.slice pA pn pk) o := (h2.keep fun k hk => hBl k (h2.own hk).1).old
          have HALL := Lib.hid (And.intro h1 (And.intro hST (And.intro hPP (hBS _ (.slice fA a.length fk) b9))))
          clear hBl hsz9 hbx hST hPP h1 h2 h3 hh
          go_wp2_with fail
          go_meet
          case rel => exact ⟨_, er, pA, pn, pk, o, a, rfl, rfl, rfl, Lib.hid ⟨HALL.out.1, HALL.out.2.1, HALL.out.2.2.1, HALL.out.2.2.2⟩⟩
      case rest =>
        obtain ⟨t15, e3, MA, ml, mc, m, b3, rfl, rfl, rfl, HM3⟩ := hcut
        obtain ⟨wD, rfl⟩ : ∃ y, y = wc := ⟨_, rfl⟩
        have hDw : Below w.heap.size w wD := (HE10.out.next HM3.out.2.2.2).1
        have HDw := Lib.hid hDw
        have hBD : Below W6.heap.size W6 wD := HM.out.2.2.trans (HM3.out.2.2.2.mono HM.out.2.2.size)
        obtain ⟨SA9, c9, hbx9, hold9⟩ := HE6.out.2.1.next hBD
        obtain ⟨BA, c15, hbx15, hold15⟩ := HM3.out.2.1
        have HPL : Hid (OldP wD.heap.size wD (.slice LA l.length lc) l) := Lib.hid (TwoAt.on hBD HE6.out.2.2)
        have HPM : Hid (OldP wD.heap.size wD (.slice MA ml mc) m) := Lib.hid HM3.out.2.2.1
        have hml : m.length = ml := by
          obtain ⟨_, _, e9, _⟩ := HM3.out.2.2.1.form
          simp only [Value.slice.injEq] at e9
          exact e9.2.1.symm
        have HML := Lib.hid hml
        have HBX := Lib.hid (And.intro (And.intro hbx9 hold9) (And.intro hbx15 hold15))
        clear hDw hBD hbx9 hold9 hbx15 hold15 hml hbx2 hold2 hal
        go_wp2_with fail
        go_loopw [17] (fun i wr => ∃ k : Nat, i = .int .i64 k ∧ k ≤ n ∧ Hid ((∀ (j : Nat) (y : Rc), j < k → recs[j]? = some y → y.key.size ≤ 32) ∧ Below wD.heap.size wD wr)) (fun i _ => n - (intOf i).toNat)
        case atStart => exact ⟨0, rfl, Nat.zero_le _, Lib.hid ⟨fun j y hj => absurd hj (Nat.not_lt_zero _), Below.refl _ _⟩⟩
        case round =>
          obtain ⟨k, rfl, hk, HO⟩ := hrel
          obtain ⟨hK, hB⟩ := HO.out
          have HB := Lib.hid hB
          by_cases hlt : k < n
          · obtain ⟨y, hy⟩ : ∃ y, recs[k]? = some y := ⟨_, List.getElem?_eq_getElem (by rw [HN.out]; exact hlt)⟩
            obtain ⟨rb, ro, rfl, hrb, hrcs⟩ := (RecsAt.low (HDw.out.trans (hB.mono HDw.out.size)) HRR.out).at (by omega)
            obtain ⟨y0, y1, y2, y3, y4⟩ := hrcs k y hy
            have hkk : (k : Int) < (n : Int) := by omega
            have HLE : Hid (k + 1 ≤ n) := Lib.hid hlt
            obtain ⟨sz, hsz⟩ : ∃ sz, y.key.size = sz := ⟨_, rfl⟩
            by_cases h32 : sz ≤ 32
            · have hd : decide (32 < sz) = false := decide_eq_false (by omega)
              have hd2 : ¬ (sz : Int) > 32 := by omega
              have HGO : Hid (∀ (j : Nat) (z : Rc), j < k + 1 → recs[j]? = some z → z.key.size ≤ 32) := Lib.hid fun j z hj hz => by
                rcases Nat.lt_or_ge j k with h1 | h1
                · exact hK j z h1 hz
                · obtain rfl : j = k := by omega
                  rw [hy] at hz
                  obtain rfl := Option.some.inj hz
                  omega
              clear hK hB HO hrcs hrb hy y0 y1 y2 y4
              go_wp2_with fail
              go_roundw
              case rel => exact ⟨k + 1, by go_num, HLE.out, Lib.hid ⟨HGO.out, HB.out⟩⟩
              case measure => have h := HLE.out; simp [intOf]; omega
            · have hd : decide (32 < sz) = true := decide_eq_true (by omega)
              have hd2 : (sz : Int) > 32 := by omega
              clear hK hB HO hrcs hrb hy y0 y1 y2 y4
              go_wp2_with fail
              go_ret
              exact ⟨rfl, HDw.out.trans (HB.out.mono HDw.out.size)⟩
          · have hkn : k = n := by omega
            obtain ⟨he1, he2, he3, hsb, hs3, hin⟩ := epochs_run hx0 hx1 (by rw [HN.out]; exact h512) (fun y hy => by
              obtain ⟨j, hj⟩ := List.getElem?_of_mem hy
              exact hK j y (by rw [hkn, ← HN.out]; exact (List.getElem?_eq_some_iff.1 hj).1) hj) c HR1.out HM.out.1 HM3.out.1
            subst he1 he2 he3
            have HIN := Lib.hid hin
            obtain ⟨wE, rfl⟩ : ∃ y, y = wr := ⟨_, rfl⟩
            have hdk : decide ((k : Int) < (n : Int)) = false := decide_eq_false (by omega)
            have hll : l.length ≤ 4096 := HR1.out.outs
            have hmm : m.length ≤ 4096 := HM3.out.1.outs
            have h9 := (hB.block _ (lt_of_some HBX.out.1.1)).trans HBX.out.1.1
            have h15 := (hB.block _ (lt_of_some HBX.out.2.1)).trans HBX.out.2.1
            have o9 : OldF wE.heap.size wE _ s := FoldsAt.on hB HBX.out.1.2
            have o15 : OldF wE.heap.size wE _ b3 := FoldsAt.on hB HBX.out.2.2
            have hgl : ∀ i : Nat, (s.getD i []).length * 24 ≤ 140737488355328 := fun i => by
              rw [hs3]
              rcases (by omega : i = 0 ∨ i = 1 ∨ i = 2 ∨ 3 ≤ i) with rfl | rfl | rfl | h
              · simp
              · show l.length * 24 ≤ _; omega
              · simp
              · rw [List.getD_eq_getElem?_getD, List.getElem?_eq_none (by simpa using h)]; simp
            have CSS := Lib.hid (sameState_calls s b3 (by rw [hs3]; simp) (by rw [← hsb, hs3]; simp) hgl (by rw [← hsb]; exact hgl) true (by rw [hsb]; simp [SameL]) _ _ wE o9 o15)
            have hs3l : s.length = 3 := by rw [hs3]; rfl
            have hb3l : b3.length = 3 := by rw [← hsb]; exact hs3l
            rw [hs3l] at h9 o9 CSS
            rw [hb3l] at h15 o15 CSS
            have d9 := (box1 h9).1
            have d15 := (box1 h15).1
            have HPAIR : Hid (∀ W, Below wE.heap.size wE W → ∃ sb so UA uc, SA9 = some ⟨sb, so, none⟩ ∧ W.cell? ⟨t9, 0, none⟩ = some (.slice SA9 3 c9) ∧ W.cell? ⟨sb, so + 1, none⟩ = some (.slice UA l.length uc) ∧ OldP W.heap.size W (.slice UA l.length uc) l) := Lib.hid fun W hW => by
              obtain ⟨sb, so, e8, _, hcs⟩ := (FoldsAt.on hW o9).at (by omega)
              obtain ⟨u, hu, hu2⟩ := hcs 1 l (by rw [hs3]; rfl)
              obtain ⟨UA, uc, rfl, _⟩ := hu2.form
              exact ⟨sb, so, UA, uc, e8, (box1 ((hW.block _ (lt_of_some h9)).trans h9)).1, hu, hu2⟩
            have HL9 := Lib.hid (And.intro hll hmm)
            have HBE : Hid (Below w.heap.size w wE) := Lib.hid (HDw.out.trans (hB.mono HDw.out.size))
            have HPL2 : Hid (OldP wE.heap.size wE (.slice LA l.length lc) l) := Lib.hid (TwoAt.on hB HPL.out)
            have HPM2 : Hid (OldP wE.heap.size wE (.slice MA ml mc) m) := Lib.hid (TwoAt.on hB HPM.out)
            clear hK hB HO HB hin hsb hs3 hgl hs3l hb3l h9 h15 o9 o15 hll hmm hkn
            go_wp2_with fail
            refine CSS.out.mono ?_
            rintro e w8 ⟨rfl, hB8⟩
            obtain ⟨sb, so, UA, uc, rfl, d9', du, hu⟩ := HPAIR.out w8 hB8
            have CSP := Lib.hid (samePairs_calls l l (by have := HL9.out; omega) (by have := HL9.out; omega) true (by simp) _ _ w8 (TwoAt.on hB8 HPL2.out) hu)
            have HB8 := Lib.hid hB8
            clear hB8 hu d9 d15 CSS
            go_wp2_with fail
            refine CSP.out.mono ?_
            rintro e wF ⟨rfl, hBF⟩
            have HF : Hid (Below wE.heap.size wE wF) := Lib.hid (HB8.out.trans (hBF.mono HB8.out.size))
            clear hBF CSP d9' du
            go_wp2_with fail
            obtain ⟨ll, hll⟩ : ∃ ll, l.length = ll := ⟨_, rfl⟩
            have HLL := Lib.hid hll
            rw [hll] at HPL2
            simp only [hll]
            have hgd : Try.prog.eqGuardType Try.prog.depth 50 = false := by kernel_rfl
            have HMM : Hid (ml ≤ 4096 ∧ ll ≤ 4096) := Lib.hid ⟨by have := HL9.out.2; have := HML.out; omega, by have := HL9.out.1; omega⟩
            have hml9 : ml ≤ 4096 := HMM.out.1
            have hll9 : ll ≤ 4096 := HMM.out.2
            clear hll
            go_loopw [18] (fun i wr => ∃ k : Nat, i = .int .i64 k ∧ k ≤ ml ∧ Hid (Below wE.heap.size wE wr)) (fun i _ => ml - (intOf i).toNat)
            case atStart => exact ⟨0, rfl, Nat.zero_le _, HF⟩
            case round =>
              obtain ⟨k2, rfl, hk2, HB2⟩ := hrel
              by_cases hlt2 : k2 < ml
              · obtain ⟨p, hp⟩ : ∃ p, m[k2]? = some p := ⟨_, List.getElem?_eq_getElem (by rw [HML.out]; exact hlt2)⟩
                have HPIN : Hid (p ∈ l) := Lib.hid (HIN.out p (List.mem_of_getElem? hp))
                have HPG := Lib.hid hp
                have hk2I : (k2 : Int) < (ml : Int) := by omega
                have HLE2 : Hid (k2 + 1 ≤ ml) := Lib.hid hlt2
                obtain ⟨wG, rfl⟩ : ∃ y, y = wr := ⟨_, rfl⟩
                clear hp
                go_wp2_with fail
                go_loopw [19, 20] (fun fb j wr => ∃ (t : Nat) (g : Bool), fb = .bool g ∧ j = .int .i64 t ∧ t ≤ ll ∧ Hid ((g = true ↔ p ∈ l.take t) ∧ Below wE.heap.size wE wr)) (fun _ j _ => ll - (intOf j).toNat)
                case atStart => exact ⟨0, false, rfl, rfl, Nat.zero_le _, Lib.hid ⟨by simp, HB2.out⟩⟩
                case round =>
                  obtain ⟨t, g, rfl, rfl, ht, HT⟩ := hrel
                  obtain ⟨hg, hBt⟩ := HT.out
                  have HBt := Lib.hid hBt
                  by_cases hlt3 : t < ll
                  · obtain ⟨q9, hq9⟩ : ∃ y, l[t]? = some y := ⟨_, List.getElem?_eq_getElem (by rw [HLL.out]; exact hlt3)⟩
                    obtain ⟨lb, lo, rfl, _, hlc⟩ := (TwoAt.on hBt HPL2.out).at (by omega)
                    obtain ⟨mb, mo, rfl, _, hmc⟩ := (TwoAt.on hBt HPM2.out).at (by omega)
                    obtain ⟨a0, a1⟩ := hlc t q9 hq9
                    obtain ⟨c0, c1⟩ := hmc k2 p HPG.out
                    dsimp only [pk, pv] at a0 a1 c0 c1
                    have htI : (t : Int) < (ll : Int) := by omega
                    have HLE3 : Hid (t + 1 ≤ ll) := Lib.hid hlt3
                    have hsn : l.take (t + 1) = l.take t ++ [q9] := Graph.take_snoc hq9
                    cases g with
                    | true =>
                      have HG1 : Hid (p ∈ l.take (t + 1)) := Lib.hid (by rw [hsn]; exact List.mem_append_left _ (hg.1 rfl))
                      clear hg hBt HT hlc hmc hq9 hsn
                      go_wp2_with fail
                      go_quiet (fail)
                      go_wp2_with fail
                      go_roundw
                      case rel => exact ⟨t + 1, true, rfl, by go_num, HLE3.out, Lib.hid ⟨⟨fun _ => HG1.out, fun _ => rfl⟩, lowN HBt.out nq⟩⟩
                      case measure => have h := HLE3.out; simp [intOf]; omega
                    | false =>
                      obtain ⟨d, hd⟩ : ∃ d, decide (q9 = p) = d := ⟨_, rfl⟩
                      have he := eq_pair q9 p
                      rw [hd] at he
                      have HG1 : Hid (d = true ↔ p ∈ l.take (t + 1)) := Lib.hid (by
                        rw [hsn, ← hd, decide_eq_true_eq, List.mem_append, List.mem_singleton]
                        constructor
                        · rintro rfl; exact .inr rfl
                        · rintro (h | h)
                          · exact absurd (hg.2 h) (by decide)
                          · exact h.symm)
                      clear hg hBt HT hlc hmc hq9 hsn hd
                      go_wp2_with fail
                      go_quiet (fail)
                      go_wp2_with fail
                      go_roundw
                      case rel => exact ⟨t + 1, d, rfl, by go_num, HLE3.out, Lib.hid ⟨HG1.out, lowN HBt.out nq⟩⟩
                      case measure => have h := HLE3.out; simp [intOf]; omega
                  · have htl : t = ll := by omega
                    obtain rfl : g = true := hg.2 (by rw [htl, ← HLL.out, List.take_length]; exact HPIN.out)
                    clear hg hBt HT
                    go_wp2_with fail
                    go_roundw
                    case rel => exact ⟨k2 + 1, by go_num, HLE2.out, HBt⟩
                    case measure => have h := HLE2.out; simp [intOf]; omega
              · go_wp2_with fail
                go_ret
                exact ⟨rfl, HBE.out.trans (HB2.out.mono HBE.out.size)⟩
  · have hd : (n : Int) > 512 := by omega
    have hd2 : 512 < n := by omega
    have hd3 : decide (512 < n) = true := decide_eq_true hd2
    go_wp2_with fail
    go_ret
    exact ⟨rfl, HE4.out.1⟩

end Go.Proofs.Ytkofipbkfniplaa.Model
