/-
  The walk of the law ModelOrders.
-/
import Derived.Test.YtkmacmibcoobdaaModelRecs
import Derived.Test.YtkmacmibcoobdaaModelPerm
import Derived.Laws.BitsAllLaws
import Derived.Deep.Cut
namespace Go.Proofs.Ytkmacmibcoobdaa.Model
open Go Go.RowKit Go.Lib Go.Sort Go.Shelf Go.Maps Go.Proofs.Ytkmacmibcoobdaa.Law Go.Proofs.Ytkmacmibcoobdaa.Graph Go.Proofs.Ytkmacmibcoobdaa.Fold

theorem wrap_u64_nonneg (z : Int) : 0 ≤ IntKind.u64.wrap z := by
  unfold IntKind.wrap; simp [IntKind.signed]; omega
theorem place_u (z : Int) (len : Nat) (h0 : 0 < len) (h1 : len ≤ 140737488351232) : ∃ s : Nat, s < len ∧ wrap64 ((IntKind.u64.wrap z).tmod (len : Int)) = (s : Int) := by
  have h2 : 0 ≤ IntKind.u64.wrap z := wrap_u64_nonneg z
  have h3 : (IntKind.u64.wrap z).tmod (len : Int) = IntKind.u64.wrap z % (len : Int) := Int.tmod_eq_emod_of_nonneg h2
  have h4 : 0 ≤ IntKind.u64.wrap z % (len : Int) := Int.emod_nonneg _ (by omega)
  have h5 : IntKind.u64.wrap z % (len : Int) < (len : Int) := Int.emod_lt_of_pos _ (by omega)
  refine ⟨(IntKind.u64.wrap z % (len : Int)).toNat, by omega, ?_⟩
  rw [h3, IntWalk.wrap64_in _ ⟨by omega, by omega⟩]
  omega
/-- The lengths of the lists that Run leaves. -/
theorem RunR.small {g : List Opr} {st : List (List Pr)} {recs : List Rc} {e : Int} {out : List Pr} {nx : List (List Pr)} (h : RunR g st recs e out nx) (h0 : st = []) : out.length ≤ 4096 ∧ nx.length ≤ 16 ∧ ∀ i : Nat, (nx.getD i []).length ≤ 4096 := by
  subst h0
  rcases h with ⟨_, _, rfl, rfl⟩ | ⟨_, _, _, rfl, rfl⟩ | ⟨_, _, _, _, rfl, rfl⟩ | ⟨hg, _, _, h4, _, rfl, rfl⟩
  · simp
  · simp
  · simp
  · have h1 := hg.1
    have h2 := hg.2.1
    refine ⟨by rw [ordN_length]; exact h4 _ (by omega), by simp [stateN]; exact h2, fun i => ?_⟩
    by_cases hi : i < g.length
    · unfold stateN
      rw [List.getD_eq_getElem?_getD, List.getElem?_map, List.getElem?_range hi]
      simp only [Option.map_some, Option.getD_some]
      split
      · have hk : (foldsL g []).getD i [] = [] := by
          have : foldsL g [] = List.replicate g.length [] := rfl
          rw [this, List.getD_eq_getElem?_getD, List.getElem?_replicate, if_pos hi]; rfl
        rw [hk]
        unfold behindN
        rw [tabL_length]
        have := keysL_len ([] ++ pairsAt g (foldsL g []) recs i)
        have := h4 i hi
        simp at *
        omega
      · simp
    · rw [List.getD_eq_getElem?_getD, List.getElem?_eq_none (by simp [stateN]; omega)]; simp

set_option maxRecDepth 100000 in
set_option maxHeartbeats 8000000 in
theorem modelOrders_law (l : List Opr) (hl : l.length * 72 ≤ 140737488351232) (hin : ∀ x ∈ l, x.ins.length * 8 ≤ 140737488351232) (hnum : ∀ x ∈ l, x.num < 4294967296 ∧ x.lim < 4294967296) (recs : List Rc) (hwr : wfR recs) (hrl : recs.length * 48 ≤ 140737488351232)
    (ts : List Int) (hlt : ts.length ≤ maxLen) (gv rv tv : Value) (w : World) (hG : OldO w.heap.size w gv l) (hR : OldRc w.heap.size w rv recs) (hT : OldR (Value.int .i64) w.heap.size w tv ts) :
    Calls Try.prog 4 #[.agg #[gv], rv, tv] w (RetB w true) := by
  unfold maxLen at hlt
  obtain ⟨GA, gcap, rfl, _⟩ := hG.form
  obtain ⟨RA, rcap, rfl, _⟩ := hR.form
  obtain ⟨TA, tcap, rfl, _⟩ := hT.form
  obtain ⟨q, hq⟩ : ∃ q, w.heap.size = q := ⟨_, rfl⟩
  have CRUN := Lib.hid fun (W : World) (hB : Below w.heap.size w W) (rs : List Rc) (hp : rs.Perm recs) (v : Value) (h : OldRc W.heap.size W v rs) =>
    run_calls l [] rs hl hin hnum (by simp) (fun p h => by cases h) (fun p h => by cases h) (fun r hr => hwr r (hp.mem_iff.1 hr)) (by rw [hp.length_eq]; exact hrl) _ (.slice none 0 0) v W ((OpsAt.low hB hG).mono fun _ hb => Nat.lt_of_lt_of_le hb hB.size) (FoldsAt.nil _ _) h
  have HR := Lib.hid hR
  have HT := Lib.hid hT
  obtain ⟨gn, hgn⟩ : ∃ gn, l.length = gn := ⟨_, rfl⟩
  obtain ⟨n, hn⟩ : ∃ n, recs.length = n := ⟨_, rfl⟩
  obtain ⟨m, hm⟩ : ∃ m, ts.length = m := ⟨_, rfl⟩
  rw [hgn] at CRUN ⊢
  rw [hn] at HR hrl ⊢
  rw [hm] at HT hlt ⊢
  have HN := Lib.hid hn
  have HM := Lib.hid hm
  have hnn : n ≤ 2932031007317 := by omega
  obtain ⟨W1, hW1⟩ : ∃ W1, w.alloc (gObj (.slice GA gn gcap)) = W1 := ⟨_, rfl⟩
  have hB1 : Below w.heap.size w W1 := by rw [← hW1]; exact (Below.refl _ _).alloc (Nat.le_refl _) _
  have k0 : W1.heap[q]? = some (gObj (.slice GA gn gcap)) := by rw [← hW1, ← hq]; exact heap_alloc_new _ _
  have HW1 := Lib.hid hW1
  have HB1 := Lib.hid hB1
  have HK1 := Lib.hid k0
  have HQ := Lib.hid hq
  have CKN := Lib.hid (known_calls W1)
  have hqs : Hid (q + 1 ≤ W1.heap.size) := Lib.hid (lt_of_some k0)
  clear hW1 hB1 k0 hgn hn hm hG hR hT hl hin hnum hwr hq
  go_enter Try.func4, Try.ntmps4
  go_upto_region 1 with fail
  rw [HW1.out, HQ.out]
  go_wp2_with fail
  refine CKN.out.mono ?_
  rintro e w2 ⟨rfl, hB2⟩
  have hBw2 : Below w.heap.size w w2 := HB1.out.trans (hB2.mono HB1.out.size)
  have k2 : w2.heap[q]? = some (gObj (.slice GA gn gcap)) := (hB2.block q hqs.out).trans HK1.out
  obtain ⟨c0, _⟩ := box1 k2
  have C1 := Lib.hid (CRUN.out w2 hBw2 recs (List.Perm.refl _) (.slice RA n rcap) (RecsAt.low hBw2 HR.out |>.mono fun _ hb => Nat.lt_of_lt_of_le hb hBw2.size))
  have HBW2 := Lib.hid hBw2
  have HK2 := Lib.hid k2
  clear hB2 hBw2 k2
  go_wp2_with fail
  refine C1.out.mono ?_
  rintro e w3 ⟨pv, fv, er, out, nx, rfl, hrun, hP, hF, hB3⟩
  obtain ⟨PA, pc, rfl, _⟩ := hP.form
  obtain ⟨FA, fc, rfl, _⟩ := hF.form
  obtain ⟨ol, hol⟩ : ∃ ol, out.length = ol := ⟨_, rfl⟩
  obtain ⟨xl, hxl⟩ : ∃ xl, nx.length = xl := ⟨_, rfl⟩
  rw [hol] at hP ⊢
  rw [hxl] at hF ⊢
  have hBw3 : Below w.heap.size w w3 := HBW2.out.trans (hB3.mono HBW2.out.size)
  obtain ⟨W4, hW4⟩ : ∃ W4, w3.alloc (sObj (.slice FA xl fc)) = W4 := ⟨_, rfl⟩
  have hB4 : Below w3.heap.size w3 W4 := by rw [← hW4]; exact (Below.refl _ _).alloc (Nat.le_refl _) _
  have kF : W4.heap[w3.heap.size]? = some (sObj (.slice FA xl fc)) := by rw [← hW4]; exact heap_alloc_new _ _
  have hBw4 : Below w.heap.size w W4 := hBw3.trans (hB4.mono hBw3.size)
  have hq2 : q < w2.heap.size := lt_of_some HK2.out
  have k3 : w3.heap[q]? = some (gObj (.slice GA gn gcap)) := (hB3.block q hq2).trans HK2.out
  have k4 : W4.heap[q]? = some (gObj (.slice GA gn gcap)) := (hB4.block q (lt_of_some k3)).trans k3
  obtain ⟨RB, rc, W5, hrunA, hrc, hB5, hnone, hrow⟩ := run_copy W4 36 (RecsAt.low hBw4 HR.out |>.mono fun _ hb => Nat.lt_of_lt_of_le hb hBw4.size) HN.out hrl
  have hBw5 : Below w.heap.size w W5 := hBw4.trans (hB5.mono hBw4.size)
  obtain ⟨p4, hp4⟩ : ∃ p4, W4.heap.size = p4 := ⟨_, rfl⟩
  have hp4' : w3.heap.size + 1 = p4 := by rw [← hp4, ← hW4, World.size_alloc]
  rw [← hW4, World.size_alloc] at hrunA
  rw [hp4] at hrow
  have RA5 := Lib.hid hrunA
  have HREL : Hid (recs.Perm recs ∧ (0 < n → ∃ g, RB = some ⟨g, 0, none⟩ ∧ p4 ≤ g ∧ RowR W5 g recs) ∧ Below p4 W4 W5) := Lib.hid ⟨List.Perm.refl _, hrow, by rw [← hp4]; exact hB5⟩
  have HP4 : Hid (OldP W4.heap.size W4 (.slice PA ol pc) out ∧ OldF W4.heap.size W4 (.slice FA xl fc) nx) := Lib.hid ⟨TwoAt.on hB4 hP.old, FoldsAt.on hB4 hF.old⟩
  have HRUN := Lib.hid hrun
  have HSM := Lib.hid (hrun.small rfl)
  have HOL := Lib.hid hol
  have HXL := Lib.hid hxl
  have HK4 := Lib.hid k4
  have HKF := Lib.hid kF
  have HBW4 := Lib.hid hBw4
  have HPP := Lib.hid hp4
  have HNONE := Lib.hid hnone
  have hplt : Hid (w3.heap.size < p4 ∧ q < p4) := Lib.hid ⟨by omega, by rw [← hp4]; exact lt_of_some k4⟩
  clear hrun hP hF hB3 hol hxl hBw3 hB4 kF hBw4 hq2 k3 k4 hrunA hB5 hrow hBw5 hp4' hp4 hW4 c0 C1 HB1 HK1 HW1 CKN hnone
  go_wp2_with (at_builtin; refine wpList_append_ran rfl _ _ _ rfl rfl rfl RA5.out ?_)
  clear RA5
  go_loopw [11] (fun i wr => ∃ k : Nat, i = .int .i64 k ∧ k ≤ m ∧ Hid (∃ xs : List Rc, xs.Perm recs ∧ (0 < n → ∃ g, RB = some ⟨g, 0, none⟩ ∧ p4 ≤ g ∧ RowR wr g xs) ∧ Below p4 W4 wr)) (fun i _ => m - (intOf i).toNat)
  case atStart => exact ⟨0, rfl, Nat.zero_le _, Lib.hid ⟨recs, HREL.out⟩⟩
  case round =>
    obtain ⟨k, rfl, hk, HO⟩ := hrel
    obtain ⟨xs, hp, hro, hB⟩ := HO.out
    have hxn : xs.length = n := hp.length_eq.trans HN.out
    by_cases hgo : k < m ∧ 0 < n
    · obtain ⟨hkm, hn0⟩ := hgo
      obtain ⟨g, rfl, hg4, hR⟩ := hro hn0
      obtain ⟨bt, ot, rfl, hbt, hct⟩ := HT.out.at (by omega)
      obtain ⟨z, hz⟩ : ∃ z, ts[k]? = some z := ⟨_, List.getElem?_eq_getElem (by rw [HM.out]; exact hkm)⟩
      have hBwr : Below w.heap.size w wr := HBW4.out.trans (hB.mono (by rw [← HPP.out]; exact HBW4.out.size))
      have ct := (hBwr.cell (p := ⟨bt, ot + k, none⟩) hbt).trans (hct k z hz)
      obtain ⟨s, hs, hsz⟩ := place_u z n hn0 (by omega)
      obtain ⟨y, hy⟩ : ∃ y, k % n = y := ⟨_, rfl⟩
      have hyn : y < n := by rw [← hy]; exact Nat.mod_lt _ hn0
      have hyI : (k : Int) % (n : Int) = (y : Int) := by omega
      obtain ⟨a, ha⟩ : ∃ a, xs[s]? = some a := ⟨_, List.getElem?_eq_getElem (by omega)⟩
      obtain ⟨b, hb⟩ : ∃ b, xs[y]? = some b := ⟨_, List.getElem?_eq_getElem (by omega)⟩
      have hnz : (n : Int) ≠ 0 := by omega
      obtain ⟨a0, a1, a2, a3, a4⟩ := hR.cells ha
      obtain ⟨b0, b1, b2, b3, b4⟩ := hR.cells hb
      have HSZ := Lib.hid hsz
      have HRR := Lib.hid hR
      have HPM := Lib.hid hp
      have HBB := Lib.hid hB
      have HAB := Lib.hid (And.intro ha hb)
      clear hR hp hB hBwr hct hz ha hb hsz hy hxn hro HO hbt
      go_upto_region 9 with fail
      rw [HSZ.out]
      go_upto_region 11 with fail
      obtain ⟨W6, hW6⟩ : ∃ W6, wr.alloc (rcObj a) = W6 := ⟨_, rfl⟩
      have hB6 : Below wr.heap.size wr W6 := by rw [← hW6]; exact (Below.refl _ _).alloc (Nat.le_refl _) _
      have kA6 : W6.heap[wr.heap.size]? = some (rcObj a) := by rw [← hW6]; exact heap_alloc_new _ _
      have hglt : g < wr.heap.size := by obtain ⟨cur, h1, _⟩ := HRR.out; exact lt_of_some h1
      have hR6 : RowR W6 g xs := HRR.out.keep (hB6.block g hglt)
      have d := hR6.cells HAB.out.2
      have fr := hR6.free
      obtain ⟨d0, d1, d2, d3, d4⟩ := d
      have f0 := fr (s * 5)
      have f1 := fr (s * 5 + 1)
      have f2 := fr (s * 5 + 2)
      have f3 := fr (s * 5 + 3)
      have f4 := fr (s * 5 + 4)
      obtain ⟨e0, e1, e2, e3, e4⟩ := hR6.cells HAB.out.1
      have HW6 := Lib.hid hW6
      have HR6 := Lib.hid hR6
      have HB6 := Lib.hid hB6
      have HA6 := Lib.hid kA6
      have HGL := Lib.hid hglt
      clear hW6 hR6 hB6 kA6 hglt fr a0 a1 a2 a3 a4 b0 b1 b2 b3 b4 ct
      rw [HW6.out]
      go_upto_region 12 with fail
      obtain ⟨W7, hW7⟩ : ∃ W7, put5 W6 g (s * 5) b = W7 := ⟨_, rfl⟩
      have hG7 : W6.grownBy W7 (some g) := by rw [← hW7]; exact put5_grown _ _ _ _
      have hR7 : RowR W7 g (xs.set s b) := by rw [← hW7]; exact HR6.out.put (by have := (List.getElem?_eq_some_iff.1 HAB.out.1).1; exact this) b
      have kA7 : W7.heap[wr.heap.size]? = some (rcObj a) := (hG7.block _ (lt_of_some HA6.out) (fun e => by have := Option.some.inj e; have := HGL.out; omega)).trans HA6.out
      obtain ⟨b2, hb2⟩ : ∃ b2, (xs.set s b)[y]? = some b2 := ⟨_, List.getElem?_eq_getElem (by rw [List.length_set]; exact (List.getElem?_eq_some_iff.1 HAB.out.2).1)⟩
      have d := hR7.cells hb2
      have fr := hR7.free
      clear d0 d1 d2 d3 d4 e0 e1 e2 e3 e4 f0 f1 f2 f3 f4
      obtain ⟨d0, d1, d2, d3, d4⟩ := d
      have f0 := fr (y * 5)
      have f1 := fr (y * 5 + 1)
      have f2 := fr (y * 5 + 2)
      have f3 := fr (y * 5 + 3)
      have f4 := fr (y * 5 + 4)
      have e0 : W7.cell? ⟨wr.heap.size, 0, none⟩ = some (.int .i64 a.producer) := by simp [World.cell?, kA7]
      have e1 : W7.cell? ⟨wr.heap.size, 1, none⟩ = some (.int .i64 a.seq) := by simp [World.cell?, kA7]
      have e2 : W7.cell? ⟨wr.heap.size, 2, none⟩ = some (.int .i64 a.part) := by simp [World.cell?, kA7]
      have e3 : W7.cell? ⟨wr.heap.size, 3, none⟩ = some (.string a.key) := by simp [World.cell?, kA7]
      have e4 : W7.cell? ⟨wr.heap.size, 4, none⟩ = some (.int .u32 (a.val : Nat)) := by simp [World.cell?, kA7]
      have hG8 : W7.grownBy (put5 W7 g (y * 5) a) (some g) := put5_grown _ _ _ _
      have hR8 : RowR (put5 W7 g (y * 5) a) g ((xs.set s b).set y a) := hR7.put (by rw [List.length_set]; exact (List.getElem?_eq_some_iff.1 HAB.out.2).1) a
      have hpw : p4 ≤ wr.heap.size := by rw [← HPP.out]; exact HBB.out.size
      have hp6 : p4 ≤ W6.heap.size := Nat.le_trans hpw HB6.out.size
      have hB7 : Below p4 W4 W7 := (HBB.out.trans (HB6.out.mono hpw)).grown hG7 hp6 (fun j hj => by cases hj; exact hg4)
      have hB8 : Below p4 W4 (put5 W7 g (y * 5) a) := hB7.grown hG8 (Nat.le_trans hp6 hG7.size) (fun j hj => by cases hj; exact hg4)
      have HNEW : Hid (∃ xs : List Rc, xs.Perm recs ∧ (0 < n → ∃ g', some (⟨g, 0, none⟩ : Addr) = some ⟨g', 0, none⟩ ∧ p4 ≤ g' ∧ RowR (put5 W7 g (y * 5) a) g' xs) ∧ Below p4 W4 (put5 W7 g (y * 5) a)) := Lib.hid
        ⟨_, (swap_permR HAB.out.1 HAB.out.2).trans HPM.out, fun _ => ⟨g, rfl, hg4, hR8⟩, hB8⟩
      unfold put5 at hW7
      have HW7 := Lib.hid hW7
      clear hW7 hG7 hR7 kA7 hb2 fr hG8 hR8 hB7 hB8 hpw hp6
      rw [HW7.out]
      go_wp2_with fail
      go_roundw
      case rel => exact ⟨k + 1, by go_num, by omega, HNEW⟩
      case measure => simp [intOf]; omega
    · have hcase : m ≤ k ∨ (k < m ∧ n = 0) := by omega
      have hBwr : Below w.heap.size w wr := HBW4.out.trans (hB.mono (by rw [← HPP.out]; exact HBW4.out.size))
      have hrec : OldRc wr.heap.size wr (.slice RB n rc) xs := by
        rcases Nat.eq_zero_or_pos n with h0 | h0
        · subst h0
          obtain rfl := List.eq_nil_of_length_eq_zero hxn
          exact ⟨RB, rc, rfl, Nat.zero_le _, HNONE.out, fun h => absurd h (Nat.lt_irrefl _)⟩
        · obtain ⟨g, rfl, _, hR⟩ := hro h0
          have := hR.recs rc (by rw [hxn]; exact hrc)
          rwa [hxn] at this
      have CA := Lib.hid (CRUN.out wr hBwr xs hp _ hrec)
      have kq : wr.heap[q]? = some (gObj (.slice GA gn gcap)) := (hB.block q hplt.out.2).trans HK4.out
      obtain ⟨cq, _⟩ := box1 kq
      have HBB := Lib.hid hB
      have HBWR := Lib.hid hBwr
      have HPM := Lib.hid hp
      have hk2 : ¬ (k < m ∧ 0 < n) := hgo
      clear hp hro hB hBwr hrec kq HO hxn hgo CRUN HREL
      have HEND : Hid (∀ (w7 : World) (pv2 fv2 : Value) (er2 : Int) (out2 : List Pr) (nx2 : List (List Pr)), RunR l [] xs er2 out2 nx2 → OwnP w7 wr.heap.size pv2 out2 → FoldsOwn w7 wr.heap.size fv2 nx2 → Below wr.heap.size wr w7 →
          er2 = er ∧ (∃ A2 c2, pv2 = .slice A2 ol c2) ∧ (∃ A3 c3, fv2 = .slice A3 xl c3) ∧
          ∀ w8, w7.alloc (sObj fv2) = w8 → Calls Try.prog 14 #[.slice PA ol pc, pv2] w8 (RetB w8 true) ∧ Below w.heap.size w w8 ∧
            ∀ w9, Below w8.heap.size w8 w9 → w9.cell? ⟨w3.heap.size, 0, none⟩ = some (.slice FA xl fc) ∧ w9.cell? ⟨w7.heap.size, 0, none⟩ = some fv2 ∧ Calls Try.prog 11 #[.agg #[.slice FA xl fc], .agg #[fv2]] w9 (RetB w9 true)) := Lib.hid fun w7 pv2 fv2 er2 out2 nx2 hrun2 hP2 hF2 hB7 => by
        obtain ⟨rfl, rfl, rfl⟩ := hrun2.uniq (HRUN.out.perm HPM.out.symm)
        obtain ⟨h1, h2, h3⟩ := HSM.out
        refine ⟨rfl, by obtain ⟨A, c, e, _⟩ := hP2.form; exact ⟨A, c, by rw [e, HOL.out]⟩, by obtain ⟨A, c, e, _⟩ := hF2.form; exact ⟨A, c, by rw [e, HXL.out]⟩, fun w8 h8 => ?_⟩
        have hB8 : Below w7.heap.size w7 w8 := by rw [← h8]; exact (Below.refl _ _).alloc (Nat.le_refl _) _
        have hk8 : w8.heap[w7.heap.size]? = some (sObj fv2) := by rw [← h8]; exact heap_alloc_new _ _
        have hp4r : p4 ≤ wr.heap.size := by rw [← HPP.out]; exact HBB.out.size
        have hB47 : Below W4.heap.size W4 w7 := by rw [HPP.out]; exact HBB.out.trans (hB7.mono hp4r)
        have hB48 : Below W4.heap.size W4 w8 := hB47.trans (hB8.mono hB47.size)
        have hw8 : Below w.heap.size w w8 := HBW4.out.trans (hB48.mono HBW4.out.size)
        have hO1 := TwoAt.on hB48 HP4.out.1
        have hO2 := TwoAt.on hB8 hP2.old
        refine ⟨samePairs_calls _ _ (by omega) (by omega) true (by simp) _ _ w8 hO1 hO2, hw8, fun w9 hB9 => ?_⟩
        have k9 : w9.heap[w7.heap.size]? = some (sObj fv2) := (hB9.block _ (lt_of_some hk8)).trans hk8
        have hB49 : Below W4.heap.size W4 w9 := hB48.trans (hB9.mono hB48.size)
        have j9 : w9.heap[w3.heap.size]? = some (sObj (.slice FA xl fc)) := (hB49.block _ (by rw [HPP.out]; exact hplt.out.1)).trans HKF.out
        have hF1 := FoldsAt.on hB49 HP4.out.2
        have hF3 := FoldsAt.on hB9 (FoldsAt.on hB8 hF2.old)
        exact ⟨(box1 j9).1, (box1 k9).1, sameState_calls _ _ (by omega) (by omega) (fun i => by have := h3 i; omega) (fun i => by have := h3 i; omega) true (by simp [SameL]) _ _ w9 hF1 hF3⟩
      clear HP4 HSM HRUN HPM HKF HK4
      rcases hcase with hmk | ⟨hkm, rfl⟩
      all_goals
        go_wp2_with fail
        refine CA.out.mono ?_
        rintro e w7 ⟨pv2, fv2, er2, out2, nx2, rfl, hrun2, hP2, hF2, hB7⟩
        obtain ⟨rfl, ⟨A2, c2, rfl⟩, ⟨A3, c3, rfl⟩, hall⟩ := HEND.out w7 pv2 fv2 er2 out2 nx2 hrun2 hP2 hF2 hB7
        obtain ⟨w8, hw8⟩ : ∃ w8, w7.alloc (sObj (.slice A3 xl c3)) = w8 := ⟨_, rfl⟩
        obtain ⟨CSP, hBw8, hnext⟩ := hall w8 hw8
        have HCSP := Lib.hid CSP
        have HW8 := Lib.hid hw8
        have HBW8 := Lib.hid hBw8
        have HNX := Lib.hid hnext
        clear hall hrun2 hP2 hF2 hB7 hw8 CSP hBw8 hnext HEND CA
        go_wp2_with fail
        rw [HW8.out]
        refine HCSP.out.mono ?_
        rintro e w9 ⟨rfl, hB9⟩
        obtain ⟨j9, k9, CSS⟩ := HNX.out w9 hB9
        have HBW9 : Hid (Below w.heap.size w w9) := Lib.hid (HBW8.out.trans (hB9.mono HBW8.out.size))
        have HCSS := Lib.hid CSS
        clear CSS hB9 HNX HCSP
        go_wp2_with fail
        refine HCSS.out.mono ?_
        rintro e w10 ⟨rfl, hB10⟩
        have HBW10 : Hid (Below w.heap.size w w10) := Lib.hid (HBW9.out.trans (hB10.mono HBW9.out.size))
        clear hB10
        go_wp2_with fail
        go_ret
        exact ⟨rfl, HBW10.out⟩

end Go.Proofs.Ytkmacmibcoobdaa.Model
