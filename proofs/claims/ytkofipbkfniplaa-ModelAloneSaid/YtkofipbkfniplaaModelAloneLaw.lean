/-
  The walk of the law ModelAlone.
-/
import Derived.Test.YtkofipbkfniplaaModelKnown
import Derived.Test.YtkofipbkfniplaaModelAloneMath
import Derived.Deep.RegionHeld3
namespace Go.Proofs.Ytkofipbkfniplaa.Model
open Go Go.RowKit Go.Lib Go.Sort Go.Shelf Go.Maps Go.Proofs.Ytkofipbkfniplaa.Law Go.Proofs.Ytkofipbkfniplaa.Graph Go.Proofs.Ytkofipbkfniplaa.Fold

theorem RecsAt.front {S : Nat → Prop} {W : World} {b off len cap k : Nat} {l : List Rc} (h : RecsAt S W (.slice (some ⟨b, off, none⟩) len cap) l) (hk : k ≤ len) : RecsAt S W (.slice (some ⟨b, off, none⟩) k cap) (l.take k) := by
  obtain ⟨A', cap', e, h2, _, h4⟩ := h
  simp only [Value.slice.injEq] at e
  obtain ⟨rfl, rfl, rfl⟩ := e
  have hl : (l.take k).length = k := by rw [List.length_take]; omega
  refine ⟨_, cap, by rw [hl], by omega, (fun h => by cases h), fun hp => ?_⟩
  obtain ⟨b', off', e1, h5, h6⟩ := h4 (by omega)
  refine ⟨b', off', e1, h5, fun j x hx => h6 j x ?_⟩
  rw [List.getElem?_take] at hx
  split at hx
  · exact hx
  · cases hx
/-- One record, cut out. -/
theorem RecsAt.one {S : Nat → Prop} {W : World} {b off len cap k : Nat} {l : List Rc} (h : RecsAt S W (.slice (some ⟨b, off, none⟩) len cap) l) {r : Rc} (hr : l[k]? = some r) (c : Nat) (hc : 1 ≤ c) : RecsAt S W (.slice (some ⟨b, off + k * 5, none⟩) 1 c) [r] := by
  have hk := (List.getElem?_eq_some_iff.1 hr).1
  obtain ⟨A', cap', e, h2, _, h4⟩ := h
  simp only [Value.slice.injEq] at e
  obtain ⟨rfl, rfl, rfl⟩ := e
  obtain ⟨b', off', e1, h5, h6⟩ := h4 (by omega)
  simp only [Option.some.injEq, Addr.mk.injEq, and_true] at e1
  obtain ⟨rfl, rfl⟩ := e1
  refine ⟨_, c, rfl, hc, (fun h => by cases h), fun _ => ⟨b, off + k * 5, rfl, h5, fun j x hx => ?_⟩⟩
  cases j with
  | zero =>
    obtain rfl : r = x := by simpa using hx
    rw [Nat.zero_mul, Nat.add_zero]
    exact h6 k r hr
  | succ j => simp at hx

set_option maxRecDepth 100000 in
set_option maxHeartbeats 16000000 in
theorem modelAlone_law (l : List Opr) (hl : l.length * 72 ≤ 140737488351232) (hin : ∀ x ∈ l, x.ins.length * 8 ≤ 140737488351232) (hnum : ∀ x ∈ l, x.num < 4294967296 ∧ x.lim < 4294967296) (recs : List Rc) (hwr : wfR recs)
    (gv rv : Value) (w : World) (hG : OldO w.heap.size w gv l) (hR : OldRc w.heap.size w rv recs) :
    Calls Try.prog 7 #[.agg #[gv], rv] w (RetB w true) := by
  obtain ⟨GA, gcap, rfl, _⟩ := hG.form
  obtain ⟨RA, rcap, rfl, hrc⟩ := hR.form
  obtain ⟨q, hq⟩ : ∃ q, w.heap.size = q := ⟨_, rfl⟩
  have CRUN := Lib.hid fun (W : World) (hB : Below w.heap.size w W) (rs : List Rc) (hp : ∀ r ∈ rs, r ∈ recs) (hlen : rs.length ≤ 30) (v : Value) (h : OldRc W.heap.size W v rs) =>
    run_calls l [] rs hl hin hnum (by simp) (fun p h => by cases h) (fun p h => by cases h) (fun r hr => hwr r (hp r hr)) (by omega) _ (.slice none 0 0) v W ((OpsAt.low hB hG).mono fun _ hb => Nat.lt_of_lt_of_le hb hB.size) (FoldsAt.nil _ _) h
  obtain ⟨gn, hgn⟩ : ∃ gn, l.length = gn := ⟨_, rfl⟩
  obtain ⟨m, hm⟩ : ∃ m, recs.length = m := ⟨_, rfl⟩
  rw [hgn] at CRUN hG hl ⊢
  rw [hm] at hR hrc ⊢
  have HGN := Lib.hid hgn
  have HM := Lib.hid hm
  have HGG := Lib.hid hG
  have HRR := Lib.hid hR
  obtain ⟨W1, hW1⟩ : ∃ W1, w.alloc (gObj (.slice GA gn gcap)) = W1 := ⟨_, rfl⟩
  have hB1 : Below w.heap.size w W1 := by rw [← hW1]; exact (Below.refl _ _).alloc (Nat.le_refl _) _
  have k0 : W1.heap[q]? = some (gObj (.slice GA gn gcap)) := by rw [← hW1, ← hq]; exact heap_alloc_new _ _
  have CKN := Lib.hid (known_calls W1)
  have HBOX : Hid (∀ W : World, Below W1.heap.size W1 W → W.heap[q]? = some (gObj (.slice GA gn gcap)) ∧ W.cell? ⟨q, 0, none⟩ = some (.slice GA gn gcap)) := Lib.hid fun W hW => by
    have h := (hW.block q (lt_of_some k0)).trans k0
    exact ⟨h, (box1 h).1⟩
  have HB1 := Lib.hid hB1
  have HW1 := Lib.hid hW1
  have hgl : gn ≤ 1954687338211 := by omega
  clear hW1 hB1 k0 hgn hm hG hR hl hin hnum hwr
  go_enter Try.func7, Try.ntmps7
  go_upto_region 1 with fail
  rw [HW1.out]
  go_wp2_with fail
  refine CKN.out.mono ?_
  rintro e w2 ⟨rfl, hB2⟩
  have HB2 := Lib.hid hB2
  clear hB2 HW1 CKN
  go_wp2_with fail
  go_loopw [5] (fun i wr => ∃ k : Nat, i = .int .i64 k ∧ k ≤ gn ∧ Hid ((∀ (j : Nat) (x : Opr), j < k → l[j]? = some x → x.kind ≠ 4 ∧ x.kind ≠ 5) ∧ Below W1.heap.size W1 wr)) (fun i _ => gn - (intOf i).toNat)
  case atStart => exact ⟨0, rfl, Nat.zero_le _, Lib.hid ⟨fun j x hj => absurd hj (Nat.not_lt_zero _), HB2.out⟩⟩
  case round =>
    obtain ⟨k, rfl, hk, HO⟩ := hrel
    obtain ⟨hK, hB⟩ := HO.out
    have c0 := (HBOX.out wr hB).2
    have HB := Lib.hid hB
    by_cases hlt : k < gn
    · obtain ⟨x, hx⟩ : ∃ x, l[k]? = some x := ⟨_, List.getElem?_eq_getElem (by rw [HGN.out]; exact hlt)⟩
      obtain ⟨ob, oo, rfl, hob, hoc⟩ := (OpsAt.low (HB1.out.trans (hB.mono HB1.out.size)) HGG.out).at (by omega)
      obtain ⟨u, ⟨x0, x1, x2, x3, x4, x5, x6⟩, -⟩ := hoc k x hx
      have hkk : (k : Int) < (gn : Int) := by omega
      have HLE : Hid (k + 1 ≤ gn) := Lib.hid hlt
      have hgo : x.kind ≠ 4 → x.kind ≠ 5 → Hid (∀ (j : Nat) (y : Opr), j < k + 1 → l[j]? = some y → y.kind ≠ 4 ∧ y.kind ≠ 5) := fun h4 h5 => Lib.hid fun j y hj hy => by
        rcases Nat.lt_or_ge j k with h1 | h1
        · exact hK j y h1 hy
        · obtain rfl : j = k := by omega
          rw [hx] at hy
          obtain rfl := Option.some.inj hy
          exact ⟨h4, h5⟩
      by_cases h4 : x.kind = 4
      · have e4 : (x.kind == 4) = true := by rw [beq_iff_eq]; exact h4
        clear h4 hgo hoc hob hx hK hB HO x1 x2 x3 x4 x5 x6
        go_wp2_with fail
        go_ret
        exact ⟨rfl, HB1.out.trans (HB.out.mono HB1.out.size)⟩
      · have e4 : (x.kind == 4) = false := beq_eq_false_iff_ne.2 h4
        by_cases h5 : x.kind = 5
        · have e5 : (x.kind == 5) = true := by rw [beq_iff_eq]; exact h5
          clear h4 h5 hgo hoc hob hx hK hB HO x1 x2 x3 x4 x5 x6
          go_wp2_with fail
          go_ret
          exact ⟨rfl, HB1.out.trans (HB.out.mono HB1.out.size)⟩
        · have e5 : (x.kind == 5) = false := beq_eq_false_iff_ne.2 h5
          have HGO := hgo h4 h5
          clear h4 h5 hgo hoc hob hx hK hB HO x1 x2 x3 x4 x5 x6
          go_wp2_with fail
          go_roundw
          case rel => exact ⟨k + 1, by go_num, HLE.out, Lib.hid ⟨HGO.out, HB.out⟩⟩
          case measure => have h := HLE.out; simp [intOf]; omega
    · have hkg : k = gn := by omega
      have HLOOSE : Hid (Loose l) := Lib.hid fun x hx => by
        obtain ⟨j, hj⟩ := List.getElem?_of_mem hx
        exact hK j x (by rw [hkg, ← HGN.out]; exact (List.getElem?_eq_some_iff.1 hj).1) hj
      have hBw : Below w.heap.size w wr := HB1.out.trans (hB.mono HB1.out.size)
      have HBw := Lib.hid hBw
      obtain ⟨wA, rfl⟩ : ∃ x, x = wr := ⟨_, rfl⟩
      clear hK hB HO hkg
      by_cases h30 : m ≤ 30
      · have hd : decide (m > 30) = false := decide_eq_false (by omega)
        have hd1 : ¬ (m : Int) > 30 := by omega
        have HRS : Hid (OldRc w.heap.size w (.slice RA m rcap) recs ∧ recs.length = m ∧ ∀ r ∈ recs, r ∈ recs) := Lib.hid ⟨HRR.out, HM.out, fun r h => h⟩
        obtain ⟨rs, hrs⟩ : ∃ rs, rs = recs := ⟨_, rfl⟩
        rw [← hrs] at HRS
        obtain ⟨RS, hRS⟩ : ∃ v : Option Addr, v = RA := ⟨_, rfl⟩
        obtain ⟨n, hn⟩ : ∃ n, n = m := ⟨_, rfl⟩
        have hn30 : n ≤ 30 := by omega
        have HRQ : Hid (∀ r ∈ rs, r ∈ recs) := Lib.hid fun r hr => by rw [hrs] at hr; exact hr
        rw [← hRS, ← hn] at HRS
        go_upto_region 10 with fail
        rw [← hRS, ← hn]
        clear hrs hRS hn hd hd1 h30 hBw HRR HM
        have c0 := (HBOX.out wA HB.out).2
        have C1 := Lib.hid (CRUN.out wA HBw.out rs HRQ.out (by rw [HRS.out.2.1]; exact hn30) (.slice RS n rcap) ((RecsAt.low HBw.out HRS.out.1).mono fun _ hb => Nat.lt_of_lt_of_le hb HBw.out.size))
        go_wp2_with fail
        refine C1.out.mono ?_
        rintro e w3 ⟨pv, fv, er, out, nx, rfl, hrun, hP, hF, hB3⟩
        obtain ⟨PA, pc, rfl, _⟩ := hP.form
        obtain ⟨FA, fc, rfl, _⟩ := hF.form
        have hB13 : Below W1.heap.size W1 w3 := HB.out.trans (hB3.mono HB.out.size)
        obtain ⟨W4, hW4⟩ : ∃ W4, w3.alloc (sObj (.slice FA nx.length fc)) = W4 := ⟨_, rfl⟩
        have hB4 : Below w3.heap.size w3 W4 := by rw [← hW4]; exact (Below.refl _ _).alloc (Nat.le_refl _) _
        have hB14 : Below W1.heap.size W1 W4 := hB13.trans (hB4.mono hB13.size)
        have HB14 := Lib.hid hB14
        have HP4 : Hid (OldP W4.heap.size W4 (.slice PA out.length pc) out) := Lib.hid (TwoAt.on hB4 hP.old)
        have kF : (w3.alloc (sObj (.slice FA nx.length fc))).cell? ⟨w3.heap.size, 0, none⟩ = some (.slice FA nx.length fc) := (box1 (heap_alloc_new w3 _)).1
        have HRUN := Lib.hid hrun
        have HSM := Lib.hid hrun.outs
        have HW4 := Lib.hid hW4
        clear hB13 hB4 hB14 hP hF hB3 hW4 C1 c0
        by_cases her : er = 0
        · subst her
          clear kF
          obtain ⟨on, hon⟩ : ∃ on, out.length = on := ⟨_, rfl⟩
          have HON := Lib.hid hon
          rw [hon] at HP4 ⊢
          obtain ⟨xl, hxl⟩ : ∃ xl, nx.length = xl := ⟨_, rfl⟩
          rw [hxl] at HW4 ⊢
          obtain ⟨p4, hp4⟩ : ∃ p4, W4.heap.size = p4 := ⟨_, rfl⟩
          have HPP := Lib.hid hp4
          clear hon hxl hrun hp4
          go_upto_region 15 with fail
          rw [HW4.out]
          go_loopw [9, 10] (fun av i wr => ∃ (k : Nat) (ov : Value), ov = av ∧ i = .int .i64 k ∧ k ≤ n ∧ Hid (OwnP wr p4 ov (eachN l rs k) ∧ Below p4 W4 wr)) (fun _ i _ => n - (intOf i).toNat)
          case atStart => exact ⟨0, _, rfl, rfl, Nat.zero_le _, Lib.hid ⟨OwnTwo.nil _ _ _, Below.refl _ _⟩⟩
          case round =>
            obtain ⟨k, ov, rfl, rfl, hk, HO⟩ := hrel
            obtain ⟨hO, hB⟩ := HO.out
            have hsz : p4 ≤ wr.heap.size := by have := hB.size; have := HPP.out; omega
            have hB1r : Below W1.heap.size W1 wr := HB14.out.trans (hB.mono (by rw [← HPP.out]; exact HB14.out.size))
            have hel : (eachN l rs k).length ≤ 4096 := by
              have h1 := each_length HLOOSE.out rs k (by rw [HRS.out.2.1]; exact hk)
              have h2 := HSM.out
              rw [HRUN.out.out_eq, ordN_length] at h2
              omega
            by_cases hlt : k < n
            · obtain ⟨x, hx⟩ : ∃ x, rs[k]? = some x := ⟨_, List.getElem?_eq_getElem (by rw [HRS.out.2.1]; exact hlt)⟩
              obtain ⟨rb, ro, rfl, _⟩ := HRS.out.1.at (by omega)
              have hcn : n ≤ rcap := by
                obtain ⟨_, _, e9, h9⟩ := HRS.out.1.form
                simp only [Value.slice.injEq] at e9
                have := HRS.out.2.1
                omega
              have hO1 := HRS.out.1.one hx (rcap - k) (by omega)
              obtain ⟨o, ho⟩ : ∃ o, ordN (pairsAt l (foldsL l []) [x] (l.length - 1)) = o := ⟨_, rfl⟩
              have CR17 : Hid (∀ W, Below p4 W4 W → Calls Try.prog 16 #[.agg #[.slice GA gn gcap], .agg #[.slice none 0 0], .slice (some ⟨rb, ro + k * 5, none⟩) 1 (rcap - k)] W fun e W' =>
                  ∃ pA pn pk fA fx fk, e = .returned (.tuple #[.slice pA pn pk, .agg #[.slice fA fx fk], .int .i64 0]) ∧ Hid (OwnP W' W.heap.size (.slice pA pn pk) o) ∧ Below p4 W4 W' ∧ W'.cell? ⟨q, 0, none⟩ = some (.slice GA gn gcap) ∧ Hid (Below W.heap.size W W')) := Lib.hid fun W hW => by
                have hW1 : Below W1.heap.size W1 W := HB14.out.trans (hW.mono (by rw [← HPP.out]; exact HB14.out.size))
                have hWw : Below w.heap.size w W := HB1.out.trans (hW1.mono HB1.out.size)
                refine (CRUN.out W hWw [x] (fun r hr => HRQ.out r (by rw [List.mem_singleton.1 hr]; exact List.mem_of_getElem? hx)) (by simp) _ ((RecsAt.low hWw hO1).mono fun _ hb => Nat.lt_of_lt_of_le hb hWw.size)).mono ?_
                rintro e W' ⟨pv, fv, er, out1, nx1, rfl, hrun1, hP1, hF1, hB9⟩
                obtain ⟨rfl, rfl⟩ := HRUN.out.alone HLOOSE.out hx hrun1
                obtain ⟨pA, pk, rfl, _⟩ := hP1.form
                obtain ⟨fA, fk, rfl, _⟩ := hF1.form
                have hW9 : Below p4 W4 W' := hW.trans (hB9.mono (by have := hW.size; have := HPP.out; omega))
                exact ⟨_, _, _, _, _, _, rfl, Lib.hid (by rw [← ho]; exact hP1), hW9, (HBOX.out W' (HB14.out.trans (hW9.mono (by rw [← HPP.out]; exact HB14.out.size)))).2, Lib.hid hB9⟩
              have hol : o.length ≤ 4096 := by
                have h1 := each_length HLOOSE.out rs (k + 1) (by rw [HRS.out.2.1]; exact hlt)
                have h2 := HSM.out
                rw [HRUN.out.out_eq, ordN_length] at h2
                have h3 : eachN l rs (k + 1) = eachN l rs k ++ o := by rw [← ho]; show eachN l rs k ++ (match rs[k]? with | some r => _ | none => []) = _; rw [hx]
                rw [h3, List.length_append] at h1
                omega
              have HNX : Hid (eachN l rs (k + 1) = eachN l rs k ++ o) := Lib.hid (by rw [← ho]; show eachN l rs k ++ (match rs[k]? with | some r => _ | none => []) = _; rw [hx])
              have HEL := Lib.hid (And.intro hel hol)
              have HLE : Hid (k + 1 ≤ n) := Lib.hid hlt
              have HOO := Lib.hid hO
              have HBB := Lib.hid hB
              have HSZ := Lib.hid hsz
              have c0 := (HBOX.out wr hB1r).2
              have hki : IntKind.i64.wrap ((k : Int) + 1) = (k : Int) + 1 := by rw [IntKind.wrap_i64]; omega
              have hkn : (k : Int) < (n : Int) := by omega
              have hkn1 : (k : Int) + 1 ≤ (rcap : Int) := by omega
              have hkc : ¬ rcap = k := by omega
              clear hO hB hO1 hx ho hel hol hB1r HO hsz
              have hs0 : (0 : Int) ≤ (k : Int) := by omega
              have hs1 : (k : Int) ≤ (k : Int) + 1 := by omega
              have hs2 : (0 : Int) ≤ (k : Int) + 1 := by omega
              have hs3 : ((k : Int) + 1).toNat = k + 1 := by omega
              have hs4 : k + 1 - k = 1 := by omega
              have hs5 : k + 1 ≤ rcap := by omega
              have hs6 : k ≤ k + 1 := by omega
              go_wp2_with fail
              have hBd : Below p4 W4 wr.drew := HBB.out.drew
              have hBA : ∀ (W : World) (o : Obj), Below p4 W4 W → Below p4 W4 (W.alloc o) := fun W o h => h.alloc (by have := h.size; have := HPP.out; omega) o
              have hBS : ∀ (W : World) (v : Value), Below p4 W4 W → Below p4 W4 (W.setCell ⟨wr.heap.size, 0, none⟩ v) := fun W v h => h.setCell (p := ⟨wr.heap.size, 0, none⟩) HSZ.out v
              have hBQ : ∀ (W : World), Below p4 W4 W → W.cell? ⟨q, 0, none⟩ = some (.slice GA gn gcap) := fun W h => (HBOX.out W (HB14.out.trans (h.mono (by rw [← HPP.out]; exact HB14.out.size)))).2
              have CR18 : Hid (Calls Try.prog 16 #[.agg #[.slice GA gn gcap], .agg #[.slice none 0 0], .slice (some ⟨rb, ro + k * 5, none⟩) 1 (rcap - k)] (wr.alloc (sObj (.slice none 0 0))).drew fun e W' =>
                  ∃ pA pn pk fA fx fk, e = .returned (.tuple #[.slice pA pn pk, .agg #[.slice fA fx fk], .int .i64 0]) ∧ Hid (OwnP W' (wr.heap.size + 1) (.slice pA pn pk) o) ∧ Below p4 W4 W' ∧ W'.cell? ⟨q, 0, none⟩ = some (.slice GA gn gcap) ∧ Hid (Below wr.heap.size wr W') ∧ W'.cell? ⟨wr.heap.size, 0, none⟩ = some (.slice none 0 0) ∧ W'.frozen? ⟨wr.heap.size, 0, none⟩ = false) := Lib.hid (by
                have hz : (wr.alloc (sObj (.slice none 0 0))).drew.heap[wr.heap.size]? = some (sObj (.slice none 0 0)) := heap_alloc_new wr _
                have hzs : (wr.alloc (sObj (.slice none 0 0))).drew.heap.size = wr.heap.size + 1 := World.size_alloc wr _
                refine (CR17.out (wr.alloc (sObj (.slice none 0 0))).drew (hBA _ _ hBd)).mono ?_
                rintro e W' ⟨pA, pn, pk, fA, fx, fk, he, hP9, b9, k9, hB9⟩
                have hz9 := (hB9.out.block wr.heap.size (by rw [hzs]; omega)).trans hz
                exact ⟨pA, pn, pk, fA, fx, fk, he, Lib.hid (by have h := hP9.out; rwa [hzs] at h), b9, k9, Lib.hid ((((Below.refl wr.heap.size wr).alloc (Nat.le_refl _) _).drew).trans (hB9.out.mono (by rw [hzs]; omega))), (box1 hz9).1, (box1 hz9).2⟩)
              go_region_held3 (fun w' => Below p4 W4 w' ∧ w'.cell? ⟨q, 0, none⟩ = some (.slice GA gn gcap)) (first | exact ⟨by assumption, by assumption⟩ | exact ⟨hBd, c0⟩ | exact ⟨hBA _ _ (by assumption), hBQ _ (hBA _ _ (by assumption))⟩ | exact ⟨hBA _ _ hBd, hBQ _ (hBA _ _ hBd)⟩ | exact ⟨hBS _ _ (by assumption), hBQ _ (hBS _ _ (by assumption))⟩ | assumption | go_keep) (first
                | (go_at_call 16; (with_reducible refine CR18.out.mono ?_); rintro e W9 ⟨pA, pn, pk, fA, fx, fk, rfl, hP9, b9, k9, hB9, z9, y9⟩)
                | (go_at_call 16; (refine (CR17.out _ (by first | assumption | exact hBd | exact hBA _ _ hBd)).mono ?_); rintro e W9 ⟨pA, pn, pk, fA, fx, fk, rfl, hP9, b9, k9, hB9⟩))
              · have h9 : Below wr.heap.size wr W9 := ⟨hB9.out.os, hB9.out.tape, hB9.out.output, hB9.out.size, hB9.out.block⟩
                have hAl : Below W9.heap.size W9 (W9.alloc (sObj (.slice fA fx fk))) := (Below.refl _ _).alloc (Nat.le_refl _) _
                have HF : Hid (Below wr.heap.size wr (W9.alloc (sObj (.slice fA fx fk)))) := Lib.hid (h9.trans (hAl.mono h9.size))
                have HPF : Hid (OldP (W9.alloc (sObj (.slice fA fx fk))).heap.size (W9.alloc (sObj (.slice fA fx fk))) (.slice pA pn pk) o) := Lib.hid (TwoAt.on hAl hP9.out.old)
                obtain ⟨FIN, hFIN⟩ : ∃ FIN, W9.alloc (sObj (.slice fA fx fk)) = FIN := ⟨_, rfl⟩
                rw [hFIN] at HF HPF
                have HFN := Lib.hid hFIN
                clear h9 hAl hFIN hP9 b9 k9 hB9
                rw [HFN.out]
                obtain ⟨A9, c9, W10, hrun9, hO10, hG10⟩ := OwnP.join (HOO.out.below HF.out) (by have h1 := HSZ.out; have h2 := HF.out.size; omega) HPF.out 28 (by have h := HEL.out; omega)
                rw [← HNX.out] at hO10
                generalize (eachN l rs k).length + o.length = len9 at hrun9 hO10
                have HN10 : Hid (OwnP W10 p4 (.slice A9 len9 c9) (eachN l rs (k + 1)) ∧ Below p4 W4 W10) := Lib.hid ⟨hO10, (HBB.out.trans (HF.out.mono HSZ.out)).grown hG10 (by have h1 := HSZ.out; have h2 := HF.out.size; omega) (fun b hb => (HOO.out.own hb).1)⟩
                have HRN := Lib.hid hrun9
                clear hrun9 hO10 hG10 hBA hBS hBQ hBd CR17 CR18
                go_wp2_with (at_builtin; refine wpList_append_ran rfl _ _ _ rfl rfl rfl HRN.out ?_)
                go_roundw
                case rel => exact ⟨k + 1, _, rfl, by go_num, HLE.out, HN10⟩
                case measure => have h := HLE.out; simp [intOf]; omega
              · have HF : Hid (Below wr.heap.size wr (W9.setCell ⟨wr.heap.size, 0, none⟩ (.slice fA fx fk))) := Lib.hid (hB9.out.setCell (p := ⟨wr.heap.size, 0, none⟩) (Nat.le_refl _) _)
                have HPF : Hid (OldP (W9.setCell ⟨wr.heap.size, 0, none⟩ (.slice fA fx fk)).heap.size (W9.setCell ⟨wr.heap.size, 0, none⟩ (.slice fA fx fk)) (.slice pA pn pk) o) := Lib.hid (hP9.out.keep (W' := W9.setCell ⟨wr.heap.size, 0, none⟩ (.slice fA fx fk)) fun b hb => Below.heap_setCell _ _ _ _ (by have := (hP9.out.own hb).1; show b ≠ wr.heap.size; omega)).old
                obtain ⟨FIN, hFIN⟩ : ∃ FIN, W9.setCell ⟨wr.heap.size, 0, none⟩ (.slice fA fx fk) = FIN := ⟨_, rfl⟩
                rw [hFIN] at HF HPF
                have HFN := Lib.hid hFIN
                clear hFIN hP9 b9 k9 hB9 z9 y9
                rw [HFN.out]
                obtain ⟨A9, c9, W10, hrun9, hO10, hG10⟩ := OwnP.join (HOO.out.below HF.out) (by have h1 := HSZ.out; have h2 := HF.out.size; omega) HPF.out 28 (by have h := HEL.out; omega)
                rw [← HNX.out] at hO10
                generalize (eachN l rs k).length + o.length = len9 at hrun9 hO10
                have HN10 : Hid (OwnP W10 p4 (.slice A9 len9 c9) (eachN l rs (k + 1)) ∧ Below p4 W4 W10) := Lib.hid ⟨hO10, (HBB.out.trans (HF.out.mono HSZ.out)).grown hG10 (by have h1 := HSZ.out; have h2 := HF.out.size; omega) (fun b hb => (HOO.out.own hb).1)⟩
                have HRN := Lib.hid hrun9
                clear hrun9 hO10 hG10 hBA hBS hBQ hBd CR17 CR18
                go_wp2_with (at_builtin; refine wpList_append_ran rfl _ _ _ rfl rfl rfl HRN.out ?_)
                go_roundw
                case rel => exact ⟨k + 1, _, rfl, by go_num, HLE.out, HN10⟩
                case measure => have h := HLE.out; simp [intOf]; omega
            · obtain rfl : k = n := by omega
              have hq0 : ordN (eachN l rs k) = out := by
                rw [HRUN.out.out_eq, ← each_out HLOOSE.out rs, HRS.out.2.1]
              have CO := order_calls (eachN l rs k) (by omega) ov wr hO.old
              rw [hq0] at CO
              have CO := Lib.hid CO
              have HBR := Lib.hid hB1r
              have HPW : Hid (OldP wr.heap.size wr (.slice PA on pc) out) := Lib.hid (TwoAt.on (by rw [HPP.out]; exact hB) HP4.out)
              clear hO hB hel hB1r HO hq0
              go_wp2_with fail
              refine CO.out.mono ?_
              rintro e W5 ⟨v5, rfl, hO5, hB5⟩
              have CS := Lib.hid (samePairs_calls out out (by have := HSM.out; omega) (by have := HSM.out; omega) true (by simp) v5 _ W5 hO5.old (TwoAt.on hB5 HPW.out))
              have HB5 := Lib.hid (HBR.out.trans (hB5.mono HBR.out.size))
              clear hO5 hB5 CO
              go_wp2_with fail
              refine CS.out.mono ?_
              rintro e W6 ⟨rfl, hB6⟩
              have HB6 := Lib.hid (HB5.out.trans (hB6.mono HB5.out.size))
              clear hB6 CS
              go_wp2_with fail
              go_ret
              exact ⟨rfl, HB1.out.trans (HB6.out.mono HB1.out.size)⟩
        · obtain ⟨rfl, rfl⟩ := hrun.fails her
          have e1 : (er != 0) = true := by rw [bne_iff_ne]; exact her
          clear hrun her
          go_wp2_with fail
          have hfin := HB14.out
          rw [← HW4.out] at hfin
          go_ret
          exact ⟨rfl, HB1.out.trans (hfin.mono HB1.out.size)⟩
      · obtain ⟨rb, ro, rfl, hrb, _⟩ := HRR.out.at (by omega)
        have hd1 : (m : Int) > 30 := by omega
        have hcap : (30 : Int) ≤ (rcap : Int) := by omega
        have hcap2 : 30 ≤ rcap := by omega
        obtain ⟨rs, hrs⟩ : ∃ rs, rs = recs.take 30 := ⟨_, rfl⟩
        obtain ⟨n, hn⟩ : ∃ n, n = 30 := ⟨_, rfl⟩
        have hn30 : n ≤ 30 := by omega
        have HRQ : Hid (∀ r ∈ rs, r ∈ recs) := Lib.hid fun r hr => by rw [hrs] at hr; exact List.mem_of_mem_take hr
        obtain ⟨RS, hRS⟩ : ∃ v : Option Addr, v = some ⟨rb, ro, none⟩ := ⟨_, rfl⟩
        have HRS : Hid (OldRc w.heap.size w (.slice RS n rcap) rs ∧ rs.length = n ∧ ∀ r ∈ rs, r ∈ recs) := Lib.hid ⟨by rw [hRS, hrs, hn]; exact HRR.out.front (by omega), by rw [hrs, hn, List.length_take, HM.out]; omega, HRQ.out⟩
        go_upto_region 10 with fail
        rw [← hRS, ← hn]
        clear hrs hRS hn hd1 h30 hBw HRR HM hrb hcap
        have c0 := (HBOX.out wA HB.out).2
        have C1 := Lib.hid (CRUN.out wA HBw.out rs HRQ.out (by rw [HRS.out.2.1]; exact hn30) (.slice RS n rcap) ((RecsAt.low HBw.out HRS.out.1).mono fun _ hb => Nat.lt_of_lt_of_le hb HBw.out.size))
        go_wp2_with fail
        refine C1.out.mono ?_
        rintro e w3 ⟨pv, fv, er, out, nx, rfl, hrun, hP, hF, hB3⟩
        obtain ⟨PA, pc, rfl, _⟩ := hP.form
        obtain ⟨FA, fc, rfl, _⟩ := hF.form
        have hB13 : Below W1.heap.size W1 w3 := HB.out.trans (hB3.mono HB.out.size)
        obtain ⟨W4, hW4⟩ : ∃ W4, w3.alloc (sObj (.slice FA nx.length fc)) = W4 := ⟨_, rfl⟩
        have hB4 : Below w3.heap.size w3 W4 := by rw [← hW4]; exact (Below.refl _ _).alloc (Nat.le_refl _) _
        have hB14 : Below W1.heap.size W1 W4 := hB13.trans (hB4.mono hB13.size)
        have HB14 := Lib.hid hB14
        have HP4 : Hid (OldP W4.heap.size W4 (.slice PA out.length pc) out) := Lib.hid (TwoAt.on hB4 hP.old)
        have kF : (w3.alloc (sObj (.slice FA nx.length fc))).cell? ⟨w3.heap.size, 0, none⟩ = some (.slice FA nx.length fc) := (box1 (heap_alloc_new w3 _)).1
        have HRUN := Lib.hid hrun
        have HSM := Lib.hid hrun.outs
        have HW4 := Lib.hid hW4
        clear hB13 hB4 hB14 hP hF hB3 hW4 C1 c0
        by_cases her : er = 0
        · subst her
          clear kF
          obtain ⟨on, hon⟩ : ∃ on, out.length = on := ⟨_, rfl⟩
          have HON := Lib.hid hon
          rw [hon] at HP4 ⊢
          obtain ⟨xl, hxl⟩ : ∃ xl, nx.length = xl := ⟨_, rfl⟩
          rw [hxl] at HW4 ⊢
          obtain ⟨p4, hp4⟩ : ∃ p4, W4.heap.size = p4 := ⟨_, rfl⟩
          have HPP := Lib.hid hp4
          clear hon hxl hrun hp4
          go_upto_region 15 with fail
          rw [HW4.out]
          go_loopw [9, 10] (fun av i wr => ∃ (k : Nat) (ov : Value), ov = av ∧ i = .int .i64 k ∧ k ≤ n ∧ Hid (OwnP wr p4 ov (eachN l rs k) ∧ Below p4 W4 wr)) (fun _ i _ => n - (intOf i).toNat)
          case atStart => exact ⟨0, _, rfl, rfl, Nat.zero_le _, Lib.hid ⟨OwnTwo.nil _ _ _, Below.refl _ _⟩⟩
          case round =>
            obtain ⟨k, ov, rfl, rfl, hk, HO⟩ := hrel
            obtain ⟨hO, hB⟩ := HO.out
            have hsz : p4 ≤ wr.heap.size := by have := hB.size; have := HPP.out; omega
            have hB1r : Below W1.heap.size W1 wr := HB14.out.trans (hB.mono (by rw [← HPP.out]; exact HB14.out.size))
            have hel : (eachN l rs k).length ≤ 4096 := by
              have h1 := each_length HLOOSE.out rs k (by rw [HRS.out.2.1]; exact hk)
              have h2 := HSM.out
              rw [HRUN.out.out_eq, ordN_length] at h2
              omega
            by_cases hlt : k < n
            · obtain ⟨x, hx⟩ : ∃ x, rs[k]? = some x := ⟨_, List.getElem?_eq_getElem (by rw [HRS.out.2.1]; exact hlt)⟩
              obtain ⟨rb, ro, rfl, _⟩ := HRS.out.1.at (by omega)
              have hcn : n ≤ rcap := by
                obtain ⟨_, _, e9, h9⟩ := HRS.out.1.form
                simp only [Value.slice.injEq] at e9
                have := HRS.out.2.1
                omega
              have hO1 := HRS.out.1.one hx (rcap - k) (by omega)
              obtain ⟨o, ho⟩ : ∃ o, ordN (pairsAt l (foldsL l []) [x] (l.length - 1)) = o := ⟨_, rfl⟩
              have CR17 : Hid (∀ W, Below p4 W4 W → Calls Try.prog 16 #[.agg #[.slice GA gn gcap], .agg #[.slice none 0 0], .slice (some ⟨rb, ro + k * 5, none⟩) 1 (rcap - k)] W fun e W' =>
                  ∃ pA pn pk fA fx fk, e = .returned (.tuple #[.slice pA pn pk, .agg #[.slice fA fx fk], .int .i64 0]) ∧ Hid (OwnP W' W.heap.size (.slice pA pn pk) o) ∧ Below p4 W4 W' ∧ W'.cell? ⟨q, 0, none⟩ = some (.slice GA gn gcap) ∧ Hid (Below W.heap.size W W')) := Lib.hid fun W hW => by
                have hW1 : Below W1.heap.size W1 W := HB14.out.trans (hW.mono (by rw [← HPP.out]; exact HB14.out.size))
                have hWw : Below w.heap.size w W := HB1.out.trans (hW1.mono HB1.out.size)
                refine (CRUN.out W hWw [x] (fun r hr => HRQ.out r (by rw [List.mem_singleton.1 hr]; exact List.mem_of_getElem? hx)) (by simp) _ ((RecsAt.low hWw hO1).mono fun _ hb => Nat.lt_of_lt_of_le hb hWw.size)).mono ?_
                rintro e W' ⟨pv, fv, er, out1, nx1, rfl, hrun1, hP1, hF1, hB9⟩
                obtain ⟨rfl, rfl⟩ := HRUN.out.alone HLOOSE.out hx hrun1
                obtain ⟨pA, pk, rfl, _⟩ := hP1.form
                obtain ⟨fA, fk, rfl, _⟩ := hF1.form
                have hW9 : Below p4 W4 W' := hW.trans (hB9.mono (by have := hW.size; have := HPP.out; omega))
                exact ⟨_, _, _, _, _, _, rfl, Lib.hid (by rw [← ho]; exact hP1), hW9, (HBOX.out W' (HB14.out.trans (hW9.mono (by rw [← HPP.out]; exact HB14.out.size)))).2, Lib.hid hB9⟩
              have hol : o.length ≤ 4096 := by
                have h1 := each_length HLOOSE.out rs (k + 1) (by rw [HRS.out.2.1]; exact hlt)
                have h2 := HSM.out
                rw [HRUN.out.out_eq, ordN_length] at h2
                have h3 : eachN l rs (k + 1) = eachN l rs k ++ o := by rw [← ho]; show eachN l rs k ++ (match rs[k]? with | some r => _ | none => []) = _; rw [hx]
                rw [h3, List.length_append] at h1
                omega
              have HNX : Hid (eachN l rs (k + 1) = eachN l rs k ++ o) := Lib.hid (by rw [← ho]; show eachN l rs k ++ (match rs[k]? with | some r => _ | none => []) = _; rw [hx])
              have HEL := Lib.hid (And.intro hel hol)
              have HLE : Hid (k + 1 ≤ n) := Lib.hid hlt
              have HOO := Lib.hid hO
              have HBB := Lib.hid hB
              have HSZ := Lib.hid hsz
              have c0 := (HBOX.out wr hB1r).2
              have hki : IntKind.i64.wrap ((k : Int) + 1) = (k : Int) + 1 := by rw [IntKind.wrap_i64]; omega
              have hkn : (k : Int) < (n : Int) := by omega
              have hkn1 : (k : Int) + 1 ≤ (rcap : Int) := by omega
              have hkc : ¬ rcap = k := by omega
              clear hO hB hO1 hx ho hel hol hB1r HO hsz
              have hs0 : (0 : Int) ≤ (k : Int) := by omega
              have hs1 : (k : Int) ≤ (k : Int) + 1 := by omega
              have hs2 : (0 : Int) ≤ (k : Int) + 1 := by omega
              have hs3 : ((k : Int) + 1).toNat = k + 1 := by omega
              have hs4 : k + 1 - k = 1 := by omega
              have hs5 : k + 1 ≤ rcap := by omega
              have hs6 : k ≤ k + 1 := by omega
              go_wp2_with fail
              have hBd : Below p4 W4 wr.drew := HBB.out.drew
              have hBA : ∀ (W : World) (o : Obj), Below p4 W4 W → Below p4 W4 (W.alloc o) := fun W o h => h.alloc (by have := h.size; have := HPP.out; omega) o
              have hBS : ∀ (W : World) (v : Value), Below p4 W4 W → Below p4 W4 (W.setCell ⟨wr.heap.size, 0, none⟩ v) := fun W v h => h.setCell (p := ⟨wr.heap.size, 0, none⟩) HSZ.out v
              have hBQ : ∀ (W : World), Below p4 W4 W → W.cell? ⟨q, 0, none⟩ = some (.slice GA gn gcap) := fun W h => (HBOX.out W (HB14.out.trans (h.mono (by rw [← HPP.out]; exact HB14.out.size)))).2
              have CR18 : Hid (Calls Try.prog 16 #[.agg #[.slice GA gn gcap], .agg #[.slice none 0 0], .slice (some ⟨rb, ro + k * 5, none⟩) 1 (rcap - k)] (wr.alloc (sObj (.slice none 0 0))).drew fun e W' =>
                  ∃ pA pn pk fA fx fk, e = .returned (.tuple #[.slice pA pn pk, .agg #[.slice fA fx fk], .int .i64 0]) ∧ Hid (OwnP W' (wr.heap.size + 1) (.slice pA pn pk) o) ∧ Below p4 W4 W' ∧ W'.cell? ⟨q, 0, none⟩ = some (.slice GA gn gcap) ∧ Hid (Below wr.heap.size wr W') ∧ W'.cell? ⟨wr.heap.size, 0, none⟩ = some (.slice none 0 0) ∧ W'.frozen? ⟨wr.heap.size, 0, none⟩ = false) := Lib.hid (by
                have hz : (wr.alloc (sObj (.slice none 0 0))).drew.heap[wr.heap.size]? = some (sObj (.slice none 0 0)) := heap_alloc_new wr _
                have hzs : (wr.alloc (sObj (.slice none 0 0))).drew.heap.size = wr.heap.size + 1 := World.size_alloc wr _
                refine (CR17.out (wr.alloc (sObj (.slice none 0 0))).drew (hBA _ _ hBd)).mono ?_
                rintro e W' ⟨pA, pn, pk, fA, fx, fk, he, hP9, b9, k9, hB9⟩
                have hz9 := (hB9.out.block wr.heap.size (by rw [hzs]; omega)).trans hz
                exact ⟨pA, pn, pk, fA, fx, fk, he, Lib.hid (by have h := hP9.out; rwa [hzs] at h), b9, k9, Lib.hid ((((Below.refl wr.heap.size wr).alloc (Nat.le_refl _) _).drew).trans (hB9.out.mono (by rw [hzs]; omega))), (box1 hz9).1, (box1 hz9).2⟩)
              go_region_held3 (fun w' => Below p4 W4 w' ∧ w'.cell? ⟨q, 0, none⟩ = some (.slice GA gn gcap)) (first | exact ⟨by assumption, by assumption⟩ | exact ⟨hBd, c0⟩ | exact ⟨hBA _ _ (by assumption), hBQ _ (hBA _ _ (by assumption))⟩ | exact ⟨hBA _ _ hBd, hBQ _ (hBA _ _ hBd)⟩ | exact ⟨hBS _ _ (by assumption), hBQ _ (hBS _ _ (by assumption))⟩ | assumption | go_keep) (first
                | (go_at_call 16; (with_reducible refine CR18.out.mono ?_); rintro e W9 ⟨pA, pn, pk, fA, fx, fk, rfl, hP9, b9, k9, hB9, z9, y9⟩)
                | (go_at_call 16; (refine (CR17.out _ (by first | assumption | exact hBd | exact hBA _ _ hBd)).mono ?_); rintro e W9 ⟨pA, pn, pk, fA, fx, fk, rfl, hP9, b9, k9, hB9⟩))
              · have h9 : Below wr.heap.size wr W9 := ⟨hB9.out.os, hB9.out.tape, hB9.out.output, hB9.out.size, hB9.out.block⟩
                have hAl : Below W9.heap.size W9 (W9.alloc (sObj (.slice fA fx fk))) := (Below.refl _ _).alloc (Nat.le_refl _) _
                have HF : Hid (Below wr.heap.size wr (W9.alloc (sObj (.slice fA fx fk)))) := Lib.hid (h9.trans (hAl.mono h9.size))
                have HPF : Hid (OldP (W9.alloc (sObj (.slice fA fx fk))).heap.size (W9.alloc (sObj (.slice fA fx fk))) (.slice pA pn pk) o) := Lib.hid (TwoAt.on hAl hP9.out.old)
                obtain ⟨FIN, hFIN⟩ : ∃ FIN, W9.alloc (sObj (.slice fA fx fk)) = FIN := ⟨_, rfl⟩
                rw [hFIN] at HF HPF
                have HFN := Lib.hid hFIN
                clear h9 hAl hFIN hP9 b9 k9 hB9
                rw [HFN.out]
                obtain ⟨A9, c9, W10, hrun9, hO10, hG10⟩ := OwnP.join (HOO.out.below HF.out) (by have h1 := HSZ.out; have h2 := HF.out.size; omega) HPF.out 28 (by have h := HEL.out; omega)
                rw [← HNX.out] at hO10
                generalize (eachN l rs k).length + o.length = len9 at hrun9 hO10
                have HN10 : Hid (OwnP W10 p4 (.slice A9 len9 c9) (eachN l rs (k + 1)) ∧ Below p4 W4 W10) := Lib.hid ⟨hO10, (HBB.out.trans (HF.out.mono HSZ.out)).grown hG10 (by have h1 := HSZ.out; have h2 := HF.out.size; omega) (fun b hb => (HOO.out.own hb).1)⟩
                have HRN := Lib.hid hrun9
                clear hrun9 hO10 hG10 hBA hBS hBQ hBd CR17 CR18
                go_wp2_with (at_builtin; refine wpList_append_ran rfl _ _ _ rfl rfl rfl HRN.out ?_)
                go_roundw
                case rel => exact ⟨k + 1, _, rfl, by go_num, HLE.out, HN10⟩
                case measure => have h := HLE.out; simp [intOf]; omega
              · have HF : Hid (Below wr.heap.size wr (W9.setCell ⟨wr.heap.size, 0, none⟩ (.slice fA fx fk))) := Lib.hid (hB9.out.setCell (p := ⟨wr.heap.size, 0, none⟩) (Nat.le_refl _) _)
                have HPF : Hid (OldP (W9.setCell ⟨wr.heap.size, 0, none⟩ (.slice fA fx fk)).heap.size (W9.setCell ⟨wr.heap.size, 0, none⟩ (.slice fA fx fk)) (.slice pA pn pk) o) := Lib.hid (hP9.out.keep (W' := W9.setCell ⟨wr.heap.size, 0, none⟩ (.slice fA fx fk)) fun b hb => Below.heap_setCell _ _ _ _ (by have := (hP9.out.own hb).1; show b ≠ wr.heap.size; omega)).old
                obtain ⟨FIN, hFIN⟩ : ∃ FIN, W9.setCell ⟨wr.heap.size, 0, none⟩ (.slice fA fx fk) = FIN := ⟨_, rfl⟩
                rw [hFIN] at HF HPF
                have HFN := Lib.hid hFIN
                clear hFIN hP9 b9 k9 hB9 z9 y9
                rw [HFN.out]
                obtain ⟨A9, c9, W10, hrun9, hO10, hG10⟩ := OwnP.join (HOO.out.below HF.out) (by have h1 := HSZ.out; have h2 := HF.out.size; omega) HPF.out 28 (by have h := HEL.out; omega)
                rw [← HNX.out] at hO10
                generalize (eachN l rs k).length + o.length = len9 at hrun9 hO10
                have HN10 : Hid (OwnP W10 p4 (.slice A9 len9 c9) (eachN l rs (k + 1)) ∧ Below p4 W4 W10) := Lib.hid ⟨hO10, (HBB.out.trans (HF.out.mono HSZ.out)).grown hG10 (by have h1 := HSZ.out; have h2 := HF.out.size; omega) (fun b hb => (HOO.out.own hb).1)⟩
                have HRN := Lib.hid hrun9
                clear hrun9 hO10 hG10 hBA hBS hBQ hBd CR17 CR18
                go_wp2_with (at_builtin; refine wpList_append_ran rfl _ _ _ rfl rfl rfl HRN.out ?_)
                go_roundw
                case rel => exact ⟨k + 1, _, rfl, by go_num, HLE.out, HN10⟩
                case measure => have h := HLE.out; simp [intOf]; omega
            · obtain rfl : k = n := by omega
              have hq0 : ordN (eachN l rs k) = out := by
                rw [HRUN.out.out_eq, ← each_out HLOOSE.out rs, HRS.out.2.1]
              have CO := order_calls (eachN l rs k) (by omega) ov wr hO.old
              rw [hq0] at CO
              have CO := Lib.hid CO
              have HBR := Lib.hid hB1r
              have HPW : Hid (OldP wr.heap.size wr (.slice PA on pc) out) := Lib.hid (TwoAt.on (by rw [HPP.out]; exact hB) HP4.out)
              clear hO hB hel hB1r HO hq0
              go_wp2_with fail
              refine CO.out.mono ?_
              rintro e W5 ⟨v5, rfl, hO5, hB5⟩
              have CS := Lib.hid (samePairs_calls out out (by have := HSM.out; omega) (by have := HSM.out; omega) true (by simp) v5 _ W5 hO5.old (TwoAt.on hB5 HPW.out))
              have HB5 := Lib.hid (HBR.out.trans (hB5.mono HBR.out.size))
              clear hO5 hB5 CO
              go_wp2_with fail
              refine CS.out.mono ?_
              rintro e W6 ⟨rfl, hB6⟩
              have HB6 := Lib.hid (HB5.out.trans (hB6.mono HB5.out.size))
              clear hB6 CS
              go_wp2_with fail
              go_ret
              exact ⟨rfl, HB1.out.trans (HB6.out.mono HB1.out.size)⟩
        · obtain ⟨rfl, rfl⟩ := hrun.fails her
          have e1 : (er != 0) = true := by rw [bne_iff_ne]; exact her
          clear hrun her
          go_wp2_with fail
          have hfin := HB14.out
          rw [← HW4.out] at hfin
          go_ret
          exact ⟨rfl, HB1.out.trans (hfin.mono HB1.out.size)⟩

end Go.Proofs.Ytkofipbkfniplaa.Model
