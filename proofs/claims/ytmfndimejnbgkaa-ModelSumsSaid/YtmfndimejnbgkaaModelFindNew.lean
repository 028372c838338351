/-
  Contract of what finder answers, at an operator that wasn't found yet.
-/
import Derived.Test.YtmfndimejnbgkaaModelFind
namespace Go.Proofs.Ytmfndimejnbgkaa.Model
open Go Go.RowKit Go.Lib Go.Sort Go.Shelf Go.Maps Go.Proofs.Ytmfndimejnbgkaa.Law Go.Proofs.Ytmfndimejnbgkaa.Graph Go.Proofs.Ytmfndimejnbgkaa.Fold

/-- What a new operator's pairs leave. -/
def NewO (W : World) (q : Nat) (gv sv rv : Value) (n : Nat) (F : Int → Option Value) (L : Nat → List Pr) (e : Ending) (W' : World) : Prop :=
  ∃ v F', e = .returned v ∧ Fnd W' q gv sv rv (n + 1) F' L ∧ F' (n : Int) = some v ∧ (∀ z : Int, z ≠ n → F' z = F z) ∧ OwnP W' (q + 6) v (L n) ∧ W.grownBy W' (some (q + 3))
theorem new_done {W W2 W3 : World} {q : Nat} {gv sv rv v : Value} {n : Nat} {F : Int → Option Value} {L : Nat → List Pr} (h : Fnd W q gv sv rv n F L) (hn : n ≤ 16) (hB2 : Below W.heap.size W W2) (hB3 : Below W2.heap.size W2 W3) (hO : OwnP W3 W2.heap.size v (L n)) :
    ∃ W4, (Instr.mapUpdate 116 (.map (some (q + 3))) (.int .i64 (n : Nat)) v).run Try.prog W3 = .ok () W4 ∧ NewO W q gv sv rv n F L (.returned v) W4 := by
  have hB : Below W.heap.size W W3 := hB2.trans (hB3.mono hB2.size)
  have h3 := h.below hB
  have hq := h.size
  have hqs := hB2.size
  obtain ⟨W4, R4, M4, G4, s4⟩ := h3.map.store Try.underlying116 (by simp only [maxLen]; omega) (s := (n : Int)) (int_ok (by omega)) v
  have keep : ∀ {base : Nat} {u : Value} {p : List Pr}, q + 6 ≤ base → OwnP W3 base u p → OwnP W4 base u p := fun {base u p} hb ho => ho.keep fun g hg => G4.block g (ho.own hg).2 (fun e => by have := (ho.own hg).1; have := Option.some.inj e; omega)
  refine ⟨W4, R4, v, _, rfl, ⟨h3.box.keep fun k hk hne => G4.block k (by have := h3.size; omega) (fun e => hne (Option.some.inj e)), M4, fun i hi => ?_, ?_, fun i hi => ?_, by rw [s4]; exact h3.size⟩, if_pos rfl, fun z hz => if_neg hz, (keep (by omega) hO).base (by omega), ?_⟩
  · by_cases hin : i = n
    · subst hin
      exact ⟨v, if_pos rfl, (keep (by omega) hO).base (by omega)⟩
    · obtain ⟨u, h1, h2⟩ := h3.hit i (by omega)
      exact ⟨u, (if_neg (by omega)).trans h1, keep (Nat.le_refl _) h2⟩
  · show (if ((n + 1 : Nat) : Int) = (n : Int) then some v else F ((n + 1 : Nat) : Int)) = none
    rw [if_neg (by omega)]; exact h.fresh (n + 1) (by omega)
  · show (if (i : Int) = (n : Int) then some v else F (i : Int)) = none
    rw [if_neg (by omega)]; exact h.fresh i (by omega)
  · exact ⟨G4.os.trans hB.os, G4.tape.trans hB.tape, G4.output.trans hB.output, Nat.le_trans hB.size G4.size, fun k hk hne => (G4.block k (Nat.lt_of_lt_of_le hk hB.size) hne).trans (hB.block k hk)⟩

set_option maxRecDepth 100000 in
set_option maxHeartbeats 16000000 in
theorem new_calls {q : Nat} {gv sv rv : Value} {n : Nat} {F : Int → Option Value} (l : List Opr) (st : List (List Pr)) (recs : List Rc) (W : World) (h : Fnd W q gv sv rv n F (pairsAt l st recs))
    (hG : OpsAt (fun b => b < q) W gv l) (hS : FoldsAt (fun b => b < q) W sv st) (hR : RecsAt (fun b => b < q) W rv recs) (x : Opr) (hx : l[n]? = some x) (hok : okP x n ((l.length : Int) - 1)) (hl : l.length ≤ 16) (hst : st.length = l.length)
    (hnum : x.num < 4294967296) (hlim : x.lim < 4294967296) (hlen : ∀ i, i < n → (pairsAt l st recs i).length ≤ 4096) (hwf : ∀ i, wfP (pairsAt l st recs i)) (kept : List Pr) (hkept : st[n]? = some kept) (hwk : wfP kept) (hkl : kept.length * 24 ≤ 140737488351232) (hrl : recs.length ≤ 512) :
    Calls Try.prog 62 (fnArgs q n) W (NewO W q gv sv rv n F (pairsAt l st recs)) := by
  have hnl : n < l.length := (List.getElem?_eq_some_iff.1 hx).1
  have hn16 : n ≤ 16 := by omega
  obtain ⟨GA, gcap, rfl, _⟩ := hG.form
  obtain ⟨SA, scap, rfl, hscap⟩ := hS.form
  obtain ⟨RA, rcap, rfl, _⟩ := hR.form
  obtain ⟨gb, go, rfl, hgb, hgc⟩ := hG.at (by omega)
  obtain ⟨sb, so, rfl, hsb, hsc⟩ := hS.at (by omega)
  obtain ⟨u, ⟨d0, d1, d2, d3, d4, d5, d6⟩, hI⟩ := hgc n x hx
  obtain ⟨kv, hkv, hkp⟩ := hsc n kept hkept
  obtain ⟨IA, icap, rfl, hicap⟩ := hI.form
  obtain ⟨KA, kcap, rfl, _⟩ := hkp.form
  have hnk := (hok.2.1).1
  obtain ⟨N, hN⟩ : ∃ N, l.length = N := ⟨_, rfl⟩
  have hpa := pairsAt_eq l st recs n
  rw [show l.getD n ⟨0, [], 0, 0, 0, 0, 0⟩ = x by rw [List.getD_eq_getElem?_getD, hx]; rfl, show st.getD n [] = kept by rw [List.getD_eq_getElem?_getD, hkept]; rfl] at hpa
  have hqs := h.size
  obtain ⟨W2, hW2⟩ : ∃ W2, W.alloc (opObj x (.slice IA x.ins.length icap)) = W2 := ⟨_, rfl⟩
  have hB2 : Below W.heap.size W W2 := by rw [← hW2]; exact alloc_low _ _
  have hX2 : W2.heap[W.heap.size]? = some (opObj x (.slice IA x.ins.length icap)) := by rw [← hW2]; exact heap_alloc_new W _
  have hs2 : W2.heap.size = W.heap.size + 1 := by rw [← hW2]; simp
  obtain ⟨g0, _⟩ := box1 h.box.g
  obtain ⟨m0, _⟩ := box1 h.box.m
  obtain ⟨g2, _⟩ := box1 ((hB2.block _ (by omega)).trans h.box.g)
  obtain ⟨m2, _⟩ := box1 ((hB2.block (q + 4) (by omega)).trans h.box.m)
  obtain ⟨r2, _⟩ := box1 ((hB2.block (q + 2) (by omega)).trans h.box.r)
  obtain ⟨⟨o0, o1, o2, o3, o4, o5, o6⟩, -⟩ := box7 hX2
  have hlk := MapV.lookOk h.map Try.underlying116 (zero_pairs W) (s := (n : Int)) (int_ok (by omega))
  rw [h.no] at hlk
  have HLK : Hid ((Instr.lookup 116 (.map (some (q + 3))) (.int .i64 (n : Nat)) true).run Try.prog W = .ok (.tuple #[.slice none 0 0, .bool false]) W) := Lib.hid hlk
  have HDN : Hid (∀ (W3 : World) (v : Value), Below W2.heap.size W2 W3 → OwnP W3 W2.heap.size v (pairsAt l st recs n) → ∃ W4, (Instr.mapUpdate 116 (.map (some (q + 3))) (.int .i64 (n : Nat)) v).run Try.prog W3 = .ok () W4 ∧ NewO W q (.slice (some ⟨gb, go, none⟩) l.length gcap) (.slice (some ⟨sb, so, none⟩) st.length scap) (.slice RA recs.length rcap) n F (pairsAt l st recs) (.returned v) W4) := Lib.hid fun W3 v hB3 hO => new_done h hn16 hB2 hB3 hO
  have HM4 : Hid (∀ W3 : World, Below W2.heap.size W2 W3 → W3.cell? ⟨q + 4, 0, none⟩ = some (.map (some (q + 3)))) := Lib.hid fun W3 hB3 => (World.cell?_of_block (hB3.block (q + 4) (by omega))).trans m2
  have hF2 := h.below hB2
  have CH : Hid (∀ (w' : World), Below W2.heap.size W2 w' → ∀ (a : Nat), a < n → ∀ va, F (a : Int) = some va → Calls Try.prog 62 (fnArgs q a) w' fun e W' => e = .returned va ∧ w' = W') := Lib.hid fun w' hw' a ha va hva => hit_calls w' (hF2.below hw') hn16 a ha va hva
  have HROW : Hid (∀ (a : Nat), a < n → ∃ va, F (a : Int) = some va ∧ OwnP W2 (q + 6) va (pairsAt l st recs a)) := Lib.hid fun a ha => hF2.hit a ha
  have hnI : (n : Int) < (N : Int) := by omega
  have hgcI : (N : Int) ≤ (gcap : Int) := by rw [← hN]; omega
  have HI2 := Lib.hid (hI.keep (T := fun b => b < W2.heap.size) (W' := W2) (fun b hb => hB2.block b (by omega)) (fun b hb => by omega))
  have HW2 := Lib.hid hW2
  have HX2 := Lib.hid hX2
  have HP := Lib.hid hpa
  have HLEN := Lib.hid hlen
  have HWF := Lib.hid hwf
  have HPG := Lib.hid fun (i : Nat) (hi : i < n) => pairsL_get l st recs hi
  have HRC := Lib.hid (hR.keep (T := fun b => b < W2.heap.size) (W' := W2) (fun b hb => hB2.block b (by omega)) (fun b hb => by omega))
  have HKP := Lib.hid (hkp.keep (T := fun b => b < W2.heap.size) (W' := W2) (fun b hb => hB2.block b (by omega)) (fun b hb => by omega))
  have HIN := Lib.hid hok.2.1.2
  have hform := hok.2.2
  have hstn : (st.length : Int) = (N : Int) := by omega
  have hscI : (N : Int) ≤ (scap : Int) := by omega
  have hBQ : q + 6 ≤ W2.heap.size := by omega
  have HKL := Lib.hid hkl
  have HRL := Lib.hid hrl
  have HWK := Lib.hid hwk
  have hsv2 : W2.cell? ⟨q + 1, 0, none⟩ = some (.slice (some ⟨sb, so, none⟩) st.length scap) := (box1 ((hB2.block (q + 1) (by omega)).trans h.box.s)).1
  have hkv2 : W2.cell? ⟨sb, so + n, none⟩ = some (.slice KA kept.length kcap) := (World.cell?_of_block (hB2.block sb (by omega))).trans hkv
  have hfb2 : W2.cell? ⟨q + 5, 0, none⟩ = some (fnV q) := (box1 ((hB2.block (q + 5) (by omega)).trans h.box.f)).1
  have HC : Hid (∀ w' : World, Below W2.heap.size W2 w' → (w'.cell? ⟨W.heap.size, 0, none⟩ = some (.int .i64 x.kind) ∧ w'.cell? ⟨W.heap.size, 1, none⟩ = some (.slice IA x.ins.length icap) ∧ w'.cell? ⟨W.heap.size, 2, none⟩ = some (.int .i64 x.arg) ∧ w'.cell? ⟨W.heap.size, 3, none⟩ = some (.int .u32 (x.num : Nat)) ∧ w'.cell? ⟨W.heap.size, 4, none⟩ = some (.int .i64 x.rounds) ∧ w'.cell? ⟨W.heap.size, 5, none⟩ = some (.int .i64 x.test) ∧ w'.cell? ⟨W.heap.size, 6, none⟩ = some (.int .u32 (x.lim : Nat))) ∧
      w'.cell? ⟨q + 5, 0, none⟩ = some (fnV q) ∧ w'.cell? ⟨q + 1, 0, none⟩ = some (.slice (some ⟨sb, so, none⟩) st.length scap) ∧ w'.cell? ⟨sb, so + n, none⟩ = some (.slice KA kept.length kcap)) := Lib.hid fun w' hw' => ⟨(box7 ((hw'.block _ (by omega)).trans hX2)).1, (World.cell?_of_block (hw'.block (q + 5) (by omega))).trans hfb2, (World.cell?_of_block (hw'.block (q + 1) (by omega))).trans hsv2, (World.cell?_of_block (hw'.block sb (by omega))).trans hkv2⟩
  have HINS : Hid (∀ w' : World, Below W2.heap.size W2 w' → ∀ (j : Nat) (y : Int), x.ins[j]? = some y → ∃ bi oi, IA = some ⟨bi, oi, none⟩ ∧ w'.cell? ⟨bi, oi + j, none⟩ = some (.int .i64 y)) := Lib.hid fun w' hw' j y hy => by
    have hj : j < x.ins.length := (List.getElem?_eq_some_iff.1 hy).1
    obtain ⟨bi, oi, e, hb, hc⟩ := (hI.keep (T := fun b => b < W2.heap.size) (W' := W2) (fun b hb => hB2.block b (by omega)) (fun b hb => by omega)).at (by omega)
    exact ⟨bi, oi, e, (World.cell?_of_block (hw'.block bi hb)).trans (hc j y hy)⟩
  clear hlk hG hS hR hgc hsc hkv hkp hI hB2 hX2 hF2 hpa hlen hwf hW2 hkl hrl hwk hqs hsv2 hkv2 hfb2 hx hkept hok h hs2
  rw [hst, hN] at *
  by_cases h1 : x.kind = 1
  · have e1 : (x.kind == 1) = true := by rw [beq_iff_eq]; exact h1
    have hP1 : pairsAt l st recs n = takenN x.arg recs := by rw [HP.out]; unfold opN; rw [if_pos h1]
    have CT := Lib.hid (taken_calls x (.slice IA x.ins.length icap) recs (by have := HRL.out; omega) _ W2 HRC.out)
    have HP1 := Lib.hid hP1
    clear h1 hP1
    go_enter Try.func62, Try.ntmps62
    go_upto_region 5 with (at_lookup; refine wpList_lookup_ran rfl _ _ _ _ rfl rfl rfl HLK.out ?_)
    rw [HW2.out]
    go_wp2_with fail
    refine CT.out.mono ?_
    rintro e W3 ⟨v3, rfl, hO3, hB3⟩
    obtain ⟨W4, R4, P4⟩ := HDN.out W3 _ hB3 (by rw [HP1.out]; exact hO3)
    obtain ⟨A3, c3, rfl, _⟩ := hO3.form
    have R4 := Lib.hid R4
    have P4 := Lib.hid P4
    have m3 := HM4.out W3 hB3
    clear hO3 hB3
    go_wp2_with (at_mapUpdate; refine wpList_mapUpdate_ran rfl _ _ _ _ rfl rfl rfl rfl R4.out ?_)
    go_ret
    exact P4.out
  by_cases h6 : x.kind = 6
  · have e1 : (x.kind == 1) = false := by rw [beq_eq_false_iff_ne]; omega
    have e6 : (x.kind == 6) = true := by rw [beq_iff_eq]; omega
    have hil : x.ins.length = 2 := by
      unfold wantN at hnk
      rw [if_neg (by omega), if_pos (by omega)] at hnk
      omega
    obtain ⟨y0, hy0⟩ : ∃ y0, x.ins[0]? = some y0 := ⟨_, List.getElem?_eq_getElem (by omega)⟩
    have hr0 := HIN.out y0 (List.mem_of_getElem? hy0)
    obtain ⟨a, rfl⟩ : ∃ a : Nat, y0 = (a : Int) := ⟨y0.toNat, by omega⟩
    have han : a < n := by omega
    obtain ⟨bi, oi, rfl, i0⟩ := HINS.out W2 (Below.refl _ _) 0 _ hy0
    obtain ⟨va, hva, hOa⟩ := HROW.out a han
    have hg0 : x.ins.getD 0 0 = (a : Int) := by rw [List.getD_eq_getElem?_getD, hy0]; rfl
    have hla := HLEN.out a han
    have hpa := HPG.out a han
    have CHA : Hid (∀ w', Below W2.heap.size W2 w' → Calls Try.prog 62 (fnArgs q a) w' fun e W' => e = .returned va ∧ w' = W') := Lib.hid fun w' hw' => CH.out w' hw' a han va hva
    obtain ⟨y1, hy1⟩ : ∃ y1, x.ins[1]? = some y1 := ⟨_, List.getElem?_eq_getElem (by omega)⟩
    have hr1 := HIN.out y1 (List.mem_of_getElem? hy1)
    obtain ⟨b, rfl⟩ : ∃ b : Nat, y1 = (b : Int) := ⟨y1.toNat, by omega⟩
    have hbn : b < n := by omega
    obtain ⟨vb, hvb, hOb⟩ := HROW.out b hbn
    have hg1 : x.ins.getD 1 0 = (b : Int) := by rw [List.getD_eq_getElem?_getD, hy1]; rfl
    have hlb := HLEN.out b hbn
    have hpb := HPG.out b hbn
    have CHB : Hid (∀ w', Below W2.heap.size W2 w' → Calls Try.prog 62 (fnArgs q b) w' fun e W' => e = .returned vb ∧ w' = W') := Lib.hid fun w' hw' => CH.out w' hw' b hbn vb hvb
    have HCI : Hid (∀ w' : World, Below W2.heap.size W2 w' → w'.cell? ⟨bi, oi, none⟩ = some (.int .i64 (a : Nat)) ∧ w'.cell? ⟨bi, oi + 1, none⟩ = some (.int .i64 (b : Nat))) := Lib.hid fun w' hw' => by
      obtain ⟨bi', oi', e, q0⟩ := HINS.out w' hw' 0 _ hy0
      obtain ⟨bi2, oi2, e', q1⟩ := HINS.out w' hw' 1 _ hy1
      simp only [Option.some.injEq, Addr.mk.injEq, and_true] at e e'
      obtain ⟨rfl, rfl⟩ := e
      obtain ⟨rfl, rfl⟩ := e'
      exact ⟨q0, q1⟩
    obtain ⟨Aa, ca, rfl, _⟩ := hOa.form
    obtain ⟨Ab, cb, rfl, _⟩ := hOb.form
    have hP1 : pairsAt l st recs n = pairsAt l st recs a ++ pairsAt l st recs b := by
      rw [HP.out]
      unfold opN
      rw [if_neg h1, if_pos h6, hg0, hg1, Int.toNat_natCast, Int.toNat_natCast, hpa, hpb]
    have HP1 := Lib.hid hP1
    have HOA := Lib.hid hOa
    have HOB := Lib.hid hOb
    have HL2 : Hid (((pairsAt l st recs a).length + (pairsAt l st recs b).length) * 24 ≤ 140737488355328) := Lib.hid (by omega)
    obtain ⟨na, hna⟩ : ∃ na, (pairsAt l st recs a).length = na := ⟨_, rfl⟩
    obtain ⟨nb, hnb⟩ : ∃ nb, (pairsAt l st recs b).length = nb := ⟨_, rfl⟩
    rw [hna] at CHA HOA
    rw [hnb] at CHB HOB
    rw [hil] at d1 HW2 HC
    have HBD : Hid (Below W2.heap.size W2 W2.drew) := Lib.hid ⟨rfl, rfl, rfl, Nat.le_refl _, fun _ _ => rfl⟩
    clear hil hy0 hr0 hva hOa hg0 hla hpa i0 hnk hy1 hr1 hvb hOb hg1 hlb hpb hP1 h1 h6 hform
    go_enter Try.func62, Try.ntmps62
    go_upto_region 5 with (at_lookup; refine wpList_lookup_ran rfl _ _ _ _ rfl rfl rfl HLK.out ?_)
    rw [HW2.out]
    go_wp2_with fail
    refine wp_region_noPanic ?_
    refine wp_region_held_tail (C := fun w' => Below W2.heap.size W2 w') [0, 1, 2, 3, 4, 6, 7, 8, 9, 10] [5, 11, 12, 13, 14] 14 (by kernel_rfl) (by kernel_rfl) (fun _ _ _ _ _ h => h) ?_ ?_
    · exact ⟨rfl, rfl, rfl, Nat.le_refl _, fun _ _ => rfl⟩
    iterate 10
      refine heldI_step (v := ?_) rfl (by rfl) (fun w' hw' => ?_) ?_
      rotate_left
      · obtain ⟨⟨k0, k1, k2, k3, k4, k5, k6⟩, k7, k8, k9⟩ := HC.out w' hw'
        obtain ⟨i0, i1⟩ := HCI.out w' hw'
        go_simp
        all_goals with_reducible rfl
      simp only [Act.put, List.getElem_toArray, List.getElem_cons_succ, List.getElem_cons_zero, List.setIfInBounds_toArray, List.set_cons_succ, List.set_cons_zero]
    refine heldI_nil ?_
    refine seqI_step rfl ?_
    simp only [List.getElem_toArray, List.getElem_cons_succ, List.getElem_cons_zero]
    go_wp2_with fail
    refine (CHA.out _ HBD.out).mono ?_
    rintro e W3 ⟨rfl, rfl⟩
    go_wp2_with fail
    refine ⟨HBD.out, ?_⟩
    refine seqI_step rfl ?_
    simp only [List.getElem_toArray, List.getElem_cons_succ, List.getElem_cons_zero]
    go_wp2_with fail
    refine (CHB.out _ HBD.out).mono ?_
    rintro e W3 ⟨rfl, rfl⟩
    go_wp2_with fail
    refine ⟨HBD.out, ?_⟩
    refine seqI_step rfl ?_
    simp only [List.getElem_toArray, List.getElem_cons_succ, List.getElem_cons_zero]
    go_wp2_with fail
    obtain ⟨WB, hWB⟩ : ∃ WB, (W2.alloc (.cells #[.slice Aa na ca, .slice Ab nb cb] 41)).drew = WB := ⟨_, rfl⟩
    have hBB : Below W2.heap.size W2 WB := by rw [← hWB]; exact ((Below.refl _ W2).alloc (Nat.le_refl _) _).drew
    have hbb : WB.heap[W2.heap.size]? = some (.cells #[.slice Aa na ca, .slice Ab nb cb] 41) := by rw [← hWB]; exact heap_alloc_new W2 _
    have CC := Lib.hid (concat_calls W2.heap.size _ _ _ _ (pairsAt l st recs a) (pairsAt l st recs b) HL2.out WB hbb (TwoAt.on hBB HOA.out.old) (TwoAt.on hBB HOB.out.old))
    rw [hWB]
    have HBB := Lib.hid hBB
    clear hWB hBB hbb
    refine ⟨HBB.out, ?_⟩
    refine seqI_step rfl ?_
    simp only [List.getElem_toArray, List.getElem_cons_succ, List.getElem_cons_zero]
    go_wp2_with fail
    refine CC.out.mono ?_
    rintro e W3 ⟨v3, rfl, hO3w, hB3w⟩
    have hB3 : Below W2.heap.size W2 W3 := HBB.out.trans (hB3w.mono HBB.out.size)
    have hO3 := hO3w.base (base' := W2.heap.size) HBB.out.size
    obtain ⟨W4, R4, P4⟩ := HDN.out W3 _ hB3 (by rw [HP1.out]; exact hO3)
    obtain ⟨A3, n3, c3, rfl⟩ : ∃ A3 n3 c3, v3 = .slice A3 n3 c3 := by obtain ⟨A, c, h, _⟩ := hO3.form; exact ⟨A, _, c, h⟩
    have R4 := Lib.hid R4
    have P4 := Lib.hid P4
    have m3 := HM4.out W3 hB3
    have HB3 := Lib.hid hB3
    clear hO3 hO3w hB3 hB3w
    go_wp2_with fail
    refine ⟨HB3.out, ?_⟩
    refine seqI_last rfl ?_
    simp only [List.getElem_toArray, List.getElem_cons_succ, List.getElem_cons_zero]
    go_wp2_with fail
    refine NoPanic.normal ?_
    go_wp2_with (at_mapUpdate; refine wpList_mapUpdate_ran rfl _ _ _ _ rfl rfl rfl rfl R4.out ?_)
    go_ret
    exact P4.out
  by_cases h5 : x.kind = 5
  · have e1 : (x.kind == 1) = false := by rw [beq_eq_false_iff_ne]; omega
    have e6 : (x.kind == 6) = false := by rw [beq_eq_false_iff_ne]; omega
    have e5 : (x.kind == 5) = true := by rw [beq_iff_eq]; omega
    have hil : x.ins.length = 2 := by
      unfold wantN at hnk
      rw [if_neg (by omega), if_pos (by omega)] at hnk
      omega
    obtain ⟨y0, hy0⟩ : ∃ y0, x.ins[0]? = some y0 := ⟨_, List.getElem?_eq_getElem (by omega)⟩
    have hr0 := HIN.out y0 (List.mem_of_getElem? hy0)
    obtain ⟨a, rfl⟩ : ∃ a : Nat, y0 = (a : Int) := ⟨y0.toNat, by omega⟩
    have han : a < n := by omega
    obtain ⟨bi, oi, rfl, i0⟩ := HINS.out W2 (Below.refl _ _) 0 _ hy0
    obtain ⟨va, hva, hOa⟩ := HROW.out a han
    have hg0 : x.ins.getD 0 0 = (a : Int) := by rw [List.getD_eq_getElem?_getD, hy0]; rfl
    have hla := HLEN.out a han
    have hpa := HPG.out a han
    have CHA : Hid (∀ w', Below W2.heap.size W2 w' → Calls Try.prog 62 (fnArgs q a) w' fun e W' => e = .returned va ∧ w' = W') := Lib.hid fun w' hw' => CH.out w' hw' a han va hva
    obtain ⟨y1, hy1⟩ : ∃ y1, x.ins[1]? = some y1 := ⟨_, List.getElem?_eq_getElem (by omega)⟩
    have hr1 := HIN.out y1 (List.mem_of_getElem? hy1)
    obtain ⟨b, rfl⟩ : ∃ b : Nat, y1 = (b : Int) := ⟨y1.toNat, by omega⟩
    have hbn : b < n := by omega
    obtain ⟨vb, hvb, hOb⟩ := HROW.out b hbn
    have hg1 : x.ins.getD 1 0 = (b : Int) := by rw [List.getD_eq_getElem?_getD, hy1]; rfl
    have hlb := HLEN.out b hbn
    have hpb := HPG.out b hbn
    have CHB : Hid (∀ w', Below W2.heap.size W2 w' → Calls Try.prog 62 (fnArgs q b) w' fun e W' => e = .returned vb ∧ w' = W') := Lib.hid fun w' hw' => CH.out w' hw' b hbn vb hvb
    have HCI : Hid (∀ w' : World, Below W2.heap.size W2 w' → w'.cell? ⟨bi, oi, none⟩ = some (.int .i64 (a : Nat)) ∧ w'.cell? ⟨bi, oi + 1, none⟩ = some (.int .i64 (b : Nat))) := Lib.hid fun w' hw' => by
      obtain ⟨bi', oi', e, q0⟩ := HINS.out w' hw' 0 _ hy0
      obtain ⟨bi2, oi2, e', q1⟩ := HINS.out w' hw' 1 _ hy1
      simp only [Option.some.injEq, Addr.mk.injEq, and_true] at e e'
      obtain ⟨rfl, rfl⟩ := e
      obtain ⟨rfl, rfl⟩ := e'
      exact ⟨q0, q1⟩
    obtain ⟨Aa, ca, rfl, _⟩ := hOa.form
    obtain ⟨Ab, cb, rfl, _⟩ := hOb.form
    have hF : isF x.arg = true := by
      rcases hform.1 with ⟨h, _⟩ | ⟨h, _⟩ | ⟨h, _⟩ | ⟨_, h, h'⟩ | ⟨h, _⟩
      · omega
      · omega
      · omega
      · exact decide_eq_true ⟨h, h'⟩
      · omega
    have hP1 : pairsAt l st recs n = joinedN x.arg (pairsAt l st recs a) (pairsAt l st recs b) := by
      rw [HP.out]
      unfold opN
      rw [if_neg h1, if_neg h6, if_pos h5, hg0, hg1, Int.toNat_natCast, Int.toNat_natCast, hpa, hpb]
    have HP1 := Lib.hid hP1
    have HBB : Hid (Below W2.heap.size W2 W2.drew) := Lib.hid ⟨rfl, rfl, rfl, Nat.le_refl _, fun _ _ => rfl⟩
    have HBD := HBB
    have CC := Lib.hid (joined_calls x.arg hF (pairsAt l st recs a) (pairsAt l st recs b) (HWF.out a) (HWF.out b) (by omega) (by omega) _ _ W2.drew (TwoAt.on HBB.out hOa.old) (TwoAt.on HBB.out hOb.old))
    obtain ⟨na, hna⟩ : ∃ na, (pairsAt l st recs a).length = na := ⟨_, rfl⟩
    obtain ⟨nb, hnb⟩ : ∃ nb, (pairsAt l st recs b).length = nb := ⟨_, rfl⟩
    rw [hna] at CHA CC
    rw [hnb] at CHB CC
    rw [hil] at d1 HW2 HC
    clear hil hy0 hr0 hva hOa hg0 hla hpa i0 hnk hy1 hr1 hvb hOb hg1 hlb hpb hP1 h1 h6 h5 hform hF
    go_enter Try.func62, Try.ntmps62
    go_upto_region 5 with (at_lookup; refine wpList_lookup_ran rfl _ _ _ _ rfl rfl rfl HLK.out ?_)
    rw [HW2.out]
    go_wp2_with fail
    refine wp_region_noPanic ?_
    refine wp_region_held_tail (C := fun w' => Below W2.heap.size W2 w') [0, 1, 2, 3, 4, 5, 6, 8, 9, 10, 11, 12] [7, 13, 14, 15] 15 (by kernel_rfl) (by kernel_rfl) (fun _ _ _ _ _ h => h) ?_ ?_
    · exact ⟨rfl, rfl, rfl, Nat.le_refl _, fun _ _ => rfl⟩
    iterate 12
      refine heldI_step (v := ?_) rfl (by rfl) (fun w' hw' => ?_) ?_
      rotate_left
      · obtain ⟨⟨k0, k1, k2, k3, k4, k5, k6⟩, k7, k8, k9⟩ := HC.out w' hw'
        obtain ⟨i0, i1⟩ := HCI.out w' hw'
        go_simp
        all_goals with_reducible rfl
      simp only [Act.put, List.getElem_toArray, List.getElem_cons_succ, List.getElem_cons_zero, List.setIfInBounds_toArray, List.set_cons_succ, List.set_cons_zero]
    refine heldI_nil ?_
    refine seqI_step rfl ?_
    simp only [List.getElem_toArray, List.getElem_cons_succ, List.getElem_cons_zero]
    go_wp2_with fail
    refine (CHA.out _ HBD.out).mono ?_
    rintro e W3 ⟨rfl, rfl⟩
    go_wp2_with fail
    refine ⟨HBD.out, ?_⟩
    refine seqI_step rfl ?_
    simp only [List.getElem_toArray, List.getElem_cons_succ, List.getElem_cons_zero]
    go_wp2_with fail
    refine (CHB.out _ HBD.out).mono ?_
    rintro e W3 ⟨rfl, rfl⟩
    go_wp2_with fail
    refine ⟨HBD.out, ?_⟩
    refine seqI_step rfl ?_
    simp only [List.getElem_toArray, List.getElem_cons_succ, List.getElem_cons_zero]
    go_wp2_with fail
    refine CC.out.mono ?_
    rintro e W3 ⟨v3, rfl, hO3w, hB3w⟩
    have hB3 : Below W2.heap.size W2 W3 := HBB.out.trans (hB3w.mono HBB.out.size)
    have hO3 := hO3w.base (base' := W2.heap.size) HBB.out.size
    obtain ⟨W4, R4, P4⟩ := HDN.out W3 _ hB3 (by rw [HP1.out]; exact hO3)
    obtain ⟨A3, n3, c3, rfl⟩ : ∃ A3 n3 c3, v3 = .slice A3 n3 c3 := by obtain ⟨A, c, h, _⟩ := hO3.form; exact ⟨A, _, c, h⟩
    have R4 := Lib.hid R4
    have P4 := Lib.hid P4
    have m3 := HM4.out W3 hB3
    have HB3 := Lib.hid hB3
    clear hO3 hO3w hB3 hB3w
    go_wp2_with fail
    refine ⟨HB3.out, ?_⟩
    refine seqI_last rfl ?_
    simp only [List.getElem_toArray, List.getElem_cons_succ, List.getElem_cons_zero]
    go_wp2_with fail
    refine NoPanic.normal ?_
    go_wp2_with (at_mapUpdate; refine wpList_mapUpdate_ran rfl _ _ _ _ rfl rfl rfl rfl R4.out ?_)
    go_ret
    exact P4.out
  by_cases h4 : x.kind = 4
  · have e1 : (x.kind == 1) = false := by rw [beq_eq_false_iff_ne]; omega
    have e6 : (x.kind == 6) = false := by rw [beq_eq_false_iff_ne]; omega
    have e5 : (x.kind == 5) = false := by rw [beq_eq_false_iff_ne]; omega
    have e4 : (x.kind == 4) = true := by rw [beq_iff_eq]; omega
    have hil : x.ins.length = 1 := by
      unfold wantN at hnk
      rw [if_neg h1, if_neg (by omega)] at hnk
      omega
    obtain ⟨y0, hy0⟩ : ∃ y0, x.ins[0]? = some y0 := ⟨_, List.getElem?_eq_getElem (by omega)⟩
    have hr0 := HIN.out y0 (List.mem_of_getElem? hy0)
    obtain ⟨a, rfl⟩ : ∃ a : Nat, y0 = (a : Int) := ⟨y0.toNat, by omega⟩
    have han : a < n := by omega
    obtain ⟨bi, oi, rfl, i0⟩ := HINS.out W2 (Below.refl _ _) 0 _ hy0
    obtain ⟨va, hva, hOa⟩ := HROW.out a han
    have hg0 : x.ins.getD 0 0 = (a : Int) := by rw [List.getD_eq_getElem?_getD, hy0]; rfl
    have hla := HLEN.out a han
    have hpa := HPG.out a han
    have CHA : Hid (∀ w', Below W2.heap.size W2 w' → Calls Try.prog 62 (fnArgs q a) w' fun e W' => e = .returned va ∧ w' = W') := Lib.hid fun w' hw' => CH.out w' hw' a han va hva
    have HCI : Hid (∀ w' : World, Below W2.heap.size W2 w' → w'.cell? ⟨bi, oi, none⟩ = some (.int .i64 (a : Nat)) ∧ True) := Lib.hid fun w' hw' => by
      obtain ⟨bi', oi', e, q0⟩ := HINS.out w' hw' 0 _ hy0
      simp only [Option.some.injEq, Addr.mk.injEq, and_true] at e
      obtain ⟨rfl, rfl⟩ := e
      exact ⟨q0, trivial⟩
    obtain ⟨Aa, ca, rfl, _⟩ := hOa.form
    have hF : isF x.arg = true := by
      rcases hform.1 with ⟨h, _⟩ | ⟨h, _⟩ | ⟨h, _⟩ | ⟨_, h, h'⟩ | ⟨h, _⟩
      · omega
      · omega
      · omega
      · exact decide_eq_true ⟨h, h'⟩
      · omega
    have hP1 : pairsAt l st recs n = foldedN x.arg (pairsAt l st recs a) kept := by
      rw [HP.out]
      unfold opN
      rw [if_neg h1, if_neg h6, if_neg h5, if_pos h4, hg0, Int.toNat_natCast, hpa]
    have HP1 := Lib.hid hP1
    have HBB : Hid (Below W2.heap.size W2 W2.drew) := Lib.hid ⟨rfl, rfl, rfl, Nat.le_refl _, fun _ _ => rfl⟩
    have HBD := HBB
    have CC := Lib.hid (folded_calls x.arg hF (pairsAt l st recs a) kept (HWF.out a) HWK.out (by omega) HKL.out _ _ W2.drew (TwoAt.on HBB.out hOa.old) (TwoAt.on HBB.out HKP.out))
    obtain ⟨na, hna⟩ : ∃ na, (pairsAt l st recs a).length = na := ⟨_, rfl⟩
    rw [hna] at CHA CC
    rw [hil] at d1 HW2 HC
    clear hil hy0 hr0 hva hOa hg0 hla hpa i0 hnk hP1 h1 h6 h5 h4 hform hF
    go_enter Try.func62, Try.ntmps62
    go_upto_region 5 with (at_lookup; refine wpList_lookup_ran rfl _ _ _ _ rfl rfl rfl HLK.out ?_)
    rw [HW2.out]
    go_wp2_with fail
    refine wp_region_noPanic ?_
    refine wp_region_held_tail (C := fun w' => Below W2.heap.size W2 w') [0, 1, 2, 3, 4, 5, 6, 8, 9, 10, 11, 12] [7, 13, 14] 14 (by kernel_rfl) (by kernel_rfl) (fun _ _ _ _ _ h => h) ?_ ?_
    · exact ⟨rfl, rfl, rfl, Nat.le_refl _, fun _ _ => rfl⟩
    iterate 12
      refine heldI_step (v := ?_) rfl (by rfl) (fun w' hw' => ?_) ?_
      rotate_left
      · obtain ⟨⟨k0, k1, k2, k3, k4, k5, k6⟩, k7, k8, k9⟩ := HC.out w' hw'
        obtain ⟨i0, i1⟩ := HCI.out w' hw'
        go_simp
        all_goals with_reducible rfl
      simp only [Act.put, List.getElem_toArray, List.getElem_cons_succ, List.getElem_cons_zero, List.setIfInBounds_toArray, List.set_cons_succ, List.set_cons_zero]
    refine heldI_nil ?_
    refine seqI_step rfl ?_
    simp only [List.getElem_toArray, List.getElem_cons_succ, List.getElem_cons_zero]
    go_wp2_with fail
    refine (CHA.out _ HBD.out).mono ?_
    rintro e W3 ⟨rfl, rfl⟩
    go_wp2_with fail
    refine ⟨HBD.out, ?_⟩
    refine seqI_step rfl ?_
    simp only [List.getElem_toArray, List.getElem_cons_succ, List.getElem_cons_zero]
    go_wp2_with fail
    refine CC.out.mono ?_
    rintro e W3 ⟨v3, rfl, hO3w, hB3w⟩
    have hB3 : Below W2.heap.size W2 W3 := HBB.out.trans (hB3w.mono HBB.out.size)
    have hO3 := hO3w.base (base' := W2.heap.size) HBB.out.size
    obtain ⟨W4, R4, P4⟩ := HDN.out W3 _ hB3 (by rw [HP1.out]; exact hO3)
    obtain ⟨A3, n3, c3, rfl⟩ : ∃ A3 n3 c3, v3 = .slice A3 n3 c3 := by obtain ⟨A, c, h, _⟩ := hO3.form; exact ⟨A, _, c, h⟩
    have R4 := Lib.hid R4
    have P4 := Lib.hid P4
    have m3 := HM4.out W3 hB3
    have HB3 := Lib.hid hB3
    clear hO3 hO3w hB3 hB3w
    go_wp2_with fail
    refine ⟨HB3.out, ?_⟩
    refine seqI_last rfl ?_
    simp only [List.getElem_toArray, List.getElem_cons_succ, List.getElem_cons_zero]
    go_wp2_with fail
    refine NoPanic.normal ?_
    go_wp2_with (at_mapUpdate; refine wpList_mapUpdate_ran rfl _ _ _ _ rfl rfl rfl rfl R4.out ?_)
    go_ret
    exact P4.out
  have hloop := hform.2.2
  have e1 : (x.kind == 1) = false := by rw [beq_eq_false_iff_ne]; omega
  have e6 : (x.kind == 6) = false := by rw [beq_eq_false_iff_ne]; omega
  have e5 : (x.kind == 5) = false := by rw [beq_eq_false_iff_ne]; omega
  have e4 : (x.kind == 4) = false := by rw [beq_eq_false_iff_ne]; omega
  have hil : x.ins.length = 1 := by
    unfold wantN at hnk
    rw [if_neg h1, if_neg (by omega)] at hnk
    omega
  obtain ⟨y0, hy0⟩ : ∃ y0, x.ins[0]? = some y0 := ⟨_, List.getElem?_eq_getElem (by omega)⟩
  have hr0 := HIN.out y0 (List.mem_of_getElem? hy0)
  obtain ⟨a, rfl⟩ : ∃ a : Nat, y0 = (a : Int) := ⟨y0.toNat, by omega⟩
  have han : a < n := by omega
  obtain ⟨bi, oi, rfl, i0⟩ := HINS.out W2 (Below.refl _ _) 0 _ hy0
  obtain ⟨va, hva, hOa⟩ := HROW.out a han
  have hg0 : x.ins.getD 0 0 = (a : Int) := by rw [List.getD_eq_getElem?_getD, hy0]; rfl
  have hla := HLEN.out a han
  have hpa := HPG.out a han
  have CHA : Hid (∀ w', Below W2.heap.size W2 w' → Calls Try.prog 62 (fnArgs q a) w' fun e W' => e = .returned va ∧ w' = W') := Lib.hid fun w' hw' => CH.out w' hw' a han va hva
  have HCI : Hid (∀ w' : World, Below W2.heap.size W2 w' → w'.cell? ⟨bi, oi, none⟩ = some (.int .i64 (a : Nat)) ∧ True) := Lib.hid fun w' hw' => by
    obtain ⟨bi', oi', e, q0⟩ := HINS.out w' hw' 0 _ hy0
    simp only [Option.some.injEq, Addr.mk.injEq, and_true] at e
    obtain ⟨rfl, rfl⟩ := e
    exact ⟨q0, trivial⟩
  obtain ⟨Aa, ca, rfl, _⟩ := hOa.form
  have hP1 : pairsAt l st recs n = passedN x (pairsAt l st recs a) := by
    rw [HP.out]
    unfold opN
    rw [if_neg h1, if_neg h6, if_neg h5, if_neg h4, hg0, Int.toNat_natCast, hpa]
  have HP1 := Lib.hid hP1
  have HBB : Hid (Below W2.heap.size W2 W2.drew) := Lib.hid ⟨rfl, rfl, rfl, Nat.le_refl _, fun _ _ => rfl⟩
  have HBD := HBB
  have cc := passed_calls x (.slice (some ⟨bi, oi, none⟩) x.ins.length icap) (fun h7 => by
    rcases hloop with ⟨h, _⟩ | ⟨_, h, h', _⟩
    · exact absurd h7 h
    · exact ⟨by omega, h'⟩) hnum hlim (pairsAt l st recs a) (HWF.out a) (by omega) _ W2.drew (TwoAt.on HBB.out hOa.old)
  have CC := Lib.hid cc
  obtain ⟨na, hna⟩ : ∃ na, (pairsAt l st recs a).length = na := ⟨_, rfl⟩
  rw [hna] at CHA CC
  rw [hil] at d1 HW2 HC CC
  clear hil hy0 hr0 hva hOa hg0 hla hpa i0 hnk hP1 h1 h6 h5 h4 hform hloop cc
  go_enter Try.func62, Try.ntmps62
  go_upto_region 5 with (at_lookup; refine wpList_lookup_ran rfl _ _ _ _ rfl rfl rfl HLK.out ?_)
  rw [HW2.out]
  go_wp2_with fail
  refine wp_region_noPanic ?_
  refine wp_region_held_tail (C := fun w' => Below W2.heap.size W2 w') [0, 1, 2, 3, 4, 5] [6, 7, 8] 8 (by kernel_rfl) (by kernel_rfl) (fun _ _ _ _ _ h => h) ?_ ?_
  · exact ⟨rfl, rfl, rfl, Nat.le_refl _, fun _ _ => rfl⟩
  iterate 6
    refine heldI_step (v := ?_) rfl (by rfl) (fun w' hw' => ?_) ?_
    rotate_left
    · obtain ⟨⟨k0, k1, k2, k3, k4, k5, k6⟩, k7, k8, k9⟩ := HC.out w' hw'
      obtain ⟨i0, i1⟩ := HCI.out w' hw'
      go_simp
      all_goals with_reducible rfl
    simp only [Act.put, List.getElem_toArray, List.getElem_cons_succ, List.getElem_cons_zero, List.setIfInBounds_toArray, List.set_cons_succ, List.set_cons_zero]
  refine heldI_nil ?_
  refine seqI_step rfl ?_
  simp only [List.getElem_toArray, List.getElem_cons_succ, List.getElem_cons_zero]
  go_wp2_with fail
  refine (CHA.out _ HBD.out).mono ?_
  rintro e W3 ⟨rfl, rfl⟩
  go_wp2_with fail
  refine ⟨HBD.out, ?_⟩
  refine seqI_step rfl ?_
  simp only [List.getElem_toArray, List.getElem_cons_succ, List.getElem_cons_zero]
  go_wp2_with fail
  refine CC.out.mono ?_
  rintro e W3 ⟨v3, rfl, hO3w, hB3w⟩
  have hB3 : Below W2.heap.size W2 W3 := HBB.out.trans (hB3w.mono HBB.out.size)
  have hO3 := hO3w.base (base' := W2.heap.size) HBB.out.size
  obtain ⟨W4, R4, P4⟩ := HDN.out W3 _ hB3 (by rw [HP1.out]; exact hO3)
  obtain ⟨A3, n3, c3, rfl⟩ : ∃ A3 n3 c3, v3 = .slice A3 n3 c3 := by obtain ⟨A, c, h, _⟩ := hO3.form; exact ⟨A, _, c, h⟩
  have R4 := Lib.hid R4
  have P4 := Lib.hid P4
  have m3 := HM4.out W3 hB3
  have HB3 := Lib.hid hB3
  clear hO3 hO3w hB3 hB3w
  go_wp2_with fail
  refine ⟨HB3.out, ?_⟩
  refine seqI_last rfl ?_
  simp only [List.getElem_toArray, List.getElem_cons_succ, List.getElem_cons_zero]
  go_wp2_with fail
  refine NoPanic.normal ?_
  go_wp2_with (at_mapUpdate; refine wpList_mapUpdate_ran rfl _ _ _ _ rfl rfl rfl rfl R4.out ?_)
  go_ret
  exact P4.out

end Go.Proofs.Ytmfndimejnbgkaa.Model
