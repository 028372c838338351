/-
  The walk of the law ModelSums.
-/
import Derived.Test.YtmfndimejnbgkaaModelSumsRws
import Derived.Laws.BitsAllLaws
import Derived.Deep.Cut
import Derived.Deep.CutRange
import Derived.Deep.RegionHeld3
import Derived.Laws.Cover1
import Derived.Lib.QuietBelow
namespace Go.Proofs.Ytmfndimejnbgkaa.Model
open Go Go.RowKit Go.Lib Go.Sort Go.Shelf Go.Maps Go.Proofs.Ytmfndimejnbgkaa.Law Go.Proofs.Ytmfndimejnbgkaa.Graph Go.Proofs.Ytmfndimejnbgkaa.Fold

/-- What holds ahead of each epoch: the pairs a came. -/
structure InvO (w : World) (b st : Nat) (i kn : Nat) (kv sv : Value) (a : List Pr) (wr : World) : Prop where
  kn : kn = (keysL a).length
  few : a.length ≤ i * 60
  short : ∀ p ∈ a, p.key.size ≤ 32
  wf : wfP a
  keys : OwnS wr w.heap.size kv (keysL a)
  sums : OwnU wr w.heap.size sv (totsL a)
  low : Below w.heap.size w wr
  gr : SumAt wr b 0
  gb : wr.heap[b + 1 + 1 + 1]? = some (gObj (.slice (some ⟨b + 1 + 1, 0, none⟩) 3 3))
  fold : ∃ FA fc, wr.heap[st]? = some (sObj (.slice FA 3 fc)) ∧ FoldsOwn wr w.heap.size (.slice FA 3 fc) [[], foldedN 0 a [], []]
  hb : w.heap.size ≤ b
  hst : w.heap.size ≤ st
  apart : ∀ g, kv.ownBlock = some g → g < wr.heap.size
/-- What holds within an epoch: the records l of it were taken. -/
structure InvI (w : World) (a : List Pr) (k kn cn ln : Nat) (kv sv cv lv : Value) (l : List Rc) (wO wr : World) : Prop where
  kn : kn = (keysL (a ++ takenN (-1) l)).length
  cn : cn = (keysL (takenN (-1) l)).length
  ln : ln = l.length
  few : l.length ≤ k
  short : ∀ r ∈ l, r.key.size ≤ 32
  wf : wfR l
  keys : OwnS wr w.heap.size kv (keysL (a ++ takenN (-1) l))
  sums : OwnU wr w.heap.size sv (totsL (a ++ takenN (-1) l))
  came : OwnS wr w.heap.size cv (keysL (takenN (-1) l))
  recs : OwnRc wr w.heap.size lv l
  low : Below w.heap.size w wr
  keeps : KeepsX exS 0 wO wr
  apart : ∀ g, kv.ownBlock = some g → cv.ownBlock ≠ some g
theorem InvI.below {w : World} {a : List Pr} {k kn cn ln : Nat} {kv sv cv lv : Value} {l : List Rc} {wO wr W' : World} (h : InvI w a k kn cn ln kv sv cv lv l wO wr) (hB : Below wr.heap.size wr W') {k' : Nat} (hk : k ≤ k') : InvI w a k' kn cn ln kv sv cv lv l wO W' :=
  ⟨h.kn, h.cn, h.ln, Nat.le_trans h.few hk, h.short, h.wf, h.keys.below hB, h.sums.below hB, h.came.below hB, h.recs.below hB, h.low.trans (hB.mono h.low.size), h.keeps.trans (KeepsX.grown (grown_of_below hB) (fun j e => by cases e)), h.apart⟩
abbrev rcO (r : Rc) : Obj := .cells #[.int .i64 r.producer, .int .i64 r.seq, .int .i64 r.part, .string r.key, .int .u32 (r.val : Nat)] 39

set_option maxRecDepth 100000 in
set_option maxHeartbeats 16000000 in
theorem modelSums_law (eps : List (List Rc)) (hep : ∀ p ∈ eps, wfR p ∧ p.length * 48 ≤ 140737488351232) (hel : eps.length * 24 ≤ 140737488351232) (ev : Value) (w : World) (hE : OldEp w.heap.size w ev eps) :
    Calls Try.prog 3 #[ev] w (RetB w true) := by
  obtain ⟨EA, ecap, rfl, hec⟩ := hE.form
  obtain ⟨n, hn⟩ : ∃ n, eps.length = n := ⟨_, rfl⟩
  rw [hn] at hE hec hel ⊢
  have HN := Lib.hid hn
  have HE := Lib.hid hE
  have HEP := Lib.hid hep
  have CK := Lib.hid (known_calls w)
  have hnm : n ≤ 140737488351232 := by omega
  clear hn hE hep
  go_enter Try.func3, Try.ntmps3
  go_wp2_with fail
  refine CK.out.mono ?_
  rintro e w1 ⟨rfl, hB1⟩
  obtain ⟨b, hb⟩ : ∃ b, w1.heap.size = b := ⟨_, rfl⟩
  obtain ⟨w3, hw3⟩ : ∃ w3, (((w1.alloc (iObj 0)).alloc (iObj 1)).alloc (sumObj b 0)).alloc (gObj (.slice (some ⟨b + 1 + 1, 0, none⟩) 3 3)) = w3 := ⟨_, rfl⟩
  have hB3 : Below w1.heap.size w1 w3 := by
    rw [← hw3]
    exact ((((Below.refl _ w1).alloc (Nat.le_refl _) _).alloc (by simp) _).alloc (by simp <;> omega) _).alloc (by simp <;> omega) _
  have k1 : w3.heap[b]? = some (iObj 0) := by
    rw [← hw3, Below.heap_alloc _ _ _ (by simp <;> omega), Below.heap_alloc _ _ _ (by simp <;> omega), Below.heap_alloc _ _ _ (by simp <;> omega), ← hb]
    exact heap_alloc_new _ _
  have k2 : w3.heap[b + 1]? = some (iObj 1) := by
    rw [← hw3, Below.heap_alloc _ _ _ (by simp <;> omega), Below.heap_alloc _ _ _ (by simp <;> omega), ← hb]
    have := heap_alloc_new (w1.alloc (iObj 0)) (iObj 1)
    rwa [World.size_alloc] at this
  have k3 : w3.heap[b + 1 + 1]? = some (sumObj b 0) := by
    rw [← hw3, Below.heap_alloc _ _ _ (by simp <;> omega), ← hb]
    have := heap_alloc_new ((w1.alloc (iObj 0)).alloc (iObj 1)) (sumObj w1.heap.size 0)
    rwa [World.size_alloc, World.size_alloc] at this
  have k4 : w3.heap[b + 1 + 1 + 1]? = some (gObj (.slice (some ⟨b + 1 + 1, 0, none⟩) 3 3)) := by
    rw [← hw3, ← hb]
    have := heap_alloc_new (((w1.alloc (iObj 0)).alloc (iObj 1)).alloc (sumObj w1.heap.size 0)) (gObj (.slice (some ⟨w1.heap.size + 1 + 1, 0, none⟩) 3 3))
    rwa [World.size_alloc, World.size_alloc, World.size_alloc] at this
  obtain ⟨c0, _⟩ := box1 k4
  have HG3 : Hid (SumAt w3 b 0 ∧ w3.heap[b + 1 + 1 + 1]? = some (gObj (.slice (some ⟨b + 1 + 1, 0, none⟩) 3 3)) ∧ Below w.heap.size w w3 ∧ w.heap.size ≤ b) := Lib.hid ⟨⟨k1, k2, k3⟩, k4, hB1.trans (hB3.mono hB1.size), by rw [← hb]; exact hB1.size⟩
  have HW3 := Lib.hid hw3
  have CE := Lib.hid (empty_calls (some ⟨b + 1 + 1, 0, none⟩) 3 3 (by omega) w3)
  clear hw3 hB3 k1 k2 k3 k4 hB1 CK
  go_upto_region 4 with fail
  rw [HW3.out]
  clear HW3 hb
  go_wp2_with fail
  refine CE.out.mono ?_
  rintro e w4 ⟨g, rfl, hF4, hB4⟩
  have hB5 := (Below.refl w4.heap.size w4).alloc (Nat.le_refl _) (sObj (.slice (some ⟨g, 0, none⟩) 3 3))
  have hB45 := hB4.trans (hB5.mono hB4.size)
  have hO : Hid (InvO w b w4.heap.size 0 0 (.slice none 0 0) (.slice none 0 0) [] (w4.alloc (sObj (.slice (some ⟨g, 0, none⟩) 3 3)))) := Lib.hid
    { kn := rfl, few := by simp, short := (fun _ h => by cases h), wf := wfP.nil, keys := OwnN.nil _ _ _ _, sums := OwnN.nil _ _ _ _, low := HG3.out.2.2.1.trans (hB45.mono HG3.out.2.2.1.size), gr := HG3.out.1.below hB45, gb := (hB45.block _ (lt_of_some HG3.out.2.1)).trans HG3.out.2.1,
      fold := ⟨_, _, heap_alloc_new w4 _, by rw [sums_none]; exact (hF4.base HG3.out.2.2.1.size).below hB5⟩, hb := HG3.out.2.2.2, hst := Nat.le_trans HG3.out.2.2.1.size hB4.size, apart := (fun _ h => by cases h) }
  clear hF4 hB4 hB5 hB45 CE c0 HG3
  go_upto_region 5 with fail
  generalize w4.heap.size = st at hO ⊢
  generalize w4.alloc (sObj (.slice (some ⟨g, 0, none⟩) 3 3)) = w5 at hO ⊢
  go_wp2_with fail
  go_loopw [5, 6, 7] (fun kv sv iv wr => ∃ (i kn kc sc : Nat) (KA SA : Option Addr) (a : List Pr), kv = .slice KA kn kc ∧ sv = .slice SA kn sc ∧ iv = .int .i64 i ∧ i ≤ n ∧ i ≤ 8 ∧ Hid (InvO w b st i kn (.slice KA kn kc) (.slice SA kn sc) a wr)) (fun _ _ i _ => 8 - (intOf i).toNat)
  case atStart => exact ⟨0, 0, 0, 0, none, none, [], rfl, rfl, rfl, Nat.zero_le _, Nat.zero_le _, hO⟩
  case round =>
    obtain ⟨i, kn, kc, sc, KA, SA, a, rfl, rfl, rfl, hi, hi8, HO⟩ := hrel
    by_cases hgo : i < n ∧ i < 8
    · obtain ⟨hin, hi8'⟩ := hgo
      obtain ⟨ep, hepx⟩ : ∃ x, eps[i]? = some x := ⟨_, List.getElem?_eq_getElem (by rw [HN.out]; exact hin)⟩
      obtain ⟨hepw, hepl⟩ := HEP.out ep (List.mem_of_getElem? hepx)
      obtain ⟨eb, eo, rfl, heb, hec2⟩ := (HE.out).at (by omega)
      obtain ⟨u, hu, hur⟩ := hec2 i ep hepx
      obtain ⟨UA, uc, rfl, huc⟩ := hur.form
      obtain ⟨un, hun⟩ : ∃ un, ep.length = un := ⟨_, rfl⟩
      rw [hun] at hu hur huc hepl
      have HU : Hid (∀ W, Below w.heap.size w W → W.cell? ⟨eb, eo + i, none⟩ = some (.slice UA un uc) ∧ OldRc w.heap.size W (.slice UA un uc) ep) := Lib.hid fun W hW => ⟨by rw [← hu]; simp only [World.cell?, hW.block _ heb], RecsAt.low hW hur⟩
      have HUN := Lib.hid hun
      have HEW := Lib.hid hepw
      have hinI : (i : Int) < (n : Int) := by omega
      have hi8I : (i : Int) < 8 := by omega
      have hB1 := (Below.refl wr.heap.size wr).alloc (Nat.le_refl _) (.cells #[] 9)
      obtain ⟨wO, hwO⟩ : ∃ wO, wr.alloc (.cells #[] 9) = wO := ⟨_, rfl⟩
      have hII : InvI w a 0 kn 0 0 (.slice KA kn kc) (.slice SA kn sc) (.slice (some ⟨wr.heap.size, 0, none⟩) 0 0) (.slice none 0 0) [] wO wO := by
        rw [← hwO]
        exact
        { kn := by rw [HO.out.kn]; simp [takenN], cn := by simp [takenN, keysL], ln := rfl, few := Nat.zero_le _, short := (fun _ h => by cases h), wf := (fun _ h => by cases h)
          keys := by simpa [takenN] using HO.out.keys.below hB1
          sums := by simpa [takenN] using HO.out.sums.below hB1
          came := by simpa [takenN, keysL] using OwnN.lit strK 9 wr w.heap.size #[] [] 0 HO.out.low.size rfl (by unfold maxLen; omega) rfl
          recs := OwnN.nil _ _ _ _
          low := HO.out.low.trans (hB1.mono HO.out.low.size)
          keeps := KeepsX.refl _ _ _
          apart := fun g hg e => by
            have := HO.out.apart g hg
            simp only [Value.ownBlock, Option.some.injEq] at e
            omega }
      have HII := Lib.hid hII
      have hOB0 : SumAt wO b 0 ∧ wO.heap[b + 1 + 1 + 1]? = some (gObj (.slice (some ⟨b + 1 + 1, 0, none⟩) 3 3)) ∧ ∃ FA fc, wO.heap[st]? = some (sObj (.slice FA 3 fc)) ∧ FoldsOwn wO w.heap.size (.slice FA 3 fc) [[], foldedN 0 a [], []] := by
        rw [← hwO]
        obtain ⟨FA, fc, hst, hF⟩ := HO.out.fold
        exact ⟨HO.out.gr.below hB1, (hB1.block _ (lt_of_some HO.out.gb)).trans HO.out.gb, FA, fc, (hB1.block _ (lt_of_some hst)).trans hst, hF.below hB1⟩
      have HOB : Hid (∀ W, KeepsX exS 0 wO W → SumAt W b 0 ∧ W.heap[b + 1 + 1 + 1]? = some (gObj (.slice (some ⟨b + 1 + 1, 0, none⟩) 3 3)) ∧ ∃ FA fc, W.heap[st]? = some (sObj (.slice FA 3 fc)) ∧ FoldsOwn W w.heap.size (.slice FA 3 fc) [[], foldedN 0 a [], []]) := Lib.hid fun W hx => by
        obtain ⟨⟨g0, g1, g2⟩, g3, FA, fc, hst, hF⟩ := hOB0
        exact ⟨⟨hx.same _ _ (Nat.zero_le _) g0 (not_exS (by decide)), hx.same _ _ (Nat.zero_le _) g1 (not_exS (by decide)), hx.same _ _ (Nat.zero_le _) g2 (not_exS (by decide))⟩, hx.same _ _ (Nat.zero_le _) g3 (not_exS (by decide)), FA, fc, hx.same _ _ (Nat.zero_le _) hst (not_exS (by decide)), folds_x hF hx⟩
      have HWO := Lib.hid hwO
      clear hu hur hun hepw hepx hec2 hB1 hII hwO heb hOB0
      go_wp2_with fail
      rw [HWO.out]
      go_loopw [5, 6, 8, 9, 10] (fun kv sv cv lv jv wr => ∃ (k kn cn ln kc sc cc lc : Nat) (KA SA CA LA : Option Addr) (l : List Rc), kv = .slice KA kn kc ∧ sv = .slice SA kn sc ∧ cv = .slice CA cn cc ∧ lv = .slice LA ln lc ∧ jv = .int .i64 k ∧ k ≤ un ∧ k ≤ 60 ∧ Hid (InvI w a k kn cn ln (.slice KA kn kc) (.slice SA kn sc) (.slice CA cn cc) (.slice LA ln lc) l wO wr)) (fun _ _ _ _ j _ => 60 - (intOf j).toNat)
      case atStart => exact ⟨0, _, _, _, _, _, _, _, _, _, _, _, [], rfl, rfl, rfl, rfl, rfl, Nat.zero_le _, Nat.zero_le _, HII⟩
      case round =>
        obtain ⟨k, kn, cn, ln, kc, sc, cc, lc, KA, SA, CA, LA, l, rfl, rfl, rfl, rfl, rfl, hk, hk60, HI⟩ := hrel
        by_cases hgo : k < un ∧ k < 60
        · obtain ⟨hku, hk60'⟩ := hgo
          have hkuI : (k : Int) < (un : Int) := by omega
          have hk60I : (k : Int) < 60 := by omega
          obtain ⟨r, hr⟩ : ∃ r, ep[k]? = some r := ⟨_, List.getElem?_eq_getElem (by rw [HUN.out]; exact hku)⟩
          obtain ⟨hu, hur⟩ := HU.out wr HI.out.low
          obtain ⟨rb, ro, rfl, hrb, hrc⟩ := hur.at (by omega)
          obtain ⟨y0, y1, y2, y3, y4⟩ := hrc k r hr
          have hrw := HEW.out r (List.mem_of_getElem? hr)
          have HRW := Lib.hid hrw
          have hBA := (Below.refl wr.heap.size wr).alloc (Nat.le_refl _) (rcO r)
          have HIA := Lib.hid (HI.out.below hBA (Nat.le_refl k))
          obtain ⟨rp, rs, ra, key, val⟩ := r
          dsimp only at y0 y1 y2 y3 y4
          obtain ⟨ks, hks⟩ : ∃ ks, key.size = ks := ⟨_, rfl⟩
          have HKS := Lib.hid hks
          have hb0 := heap_alloc_new wr (rcO ⟨rp, rs, ra, key, val⟩)
          by_cases h32 : ks ≤ 32
          · have hd : decide (32 < ks) = false := decide_eq_false (by omega)
            have hd2 : ¬ (32 : Int) < (ks : Int) := by omega
            have IA := HI.out.below hBA (Nat.le_refl k)
            have hqb : wr.heap.size < (wr.alloc (rcO ⟨rp, rs, ra, key, val⟩)).heap.size := by rw [World.size_alloc]; omega
            obtain ⟨A1, c1, W1, R1, O1, G1, Z1⟩ := rcs_append IA.recs IA.low.size ⟨rp, rs, ra, key, val⟩ 37 (by have := IA.few; omega)
            have hown : ∀ g, (Value.slice LA ln lc).ownBlock = some g → g < wr.heap.size := fun g hg => (HI.out.recs.own hg).2
            have hbx1 : W1.heap[wr.heap.size]? = some (rcO ⟨rp, rs, ra, key, val⟩) := (G1.block _ hqb (fun e => by have := hown _ e.symm; omega)).trans hb0
            have b1 : Below w.heap.size w W1 := IA.low.grown G1 IA.low.size (fun g e => (IA.recs.own e).1)
            have x1 := IA.keeps.trans (OwnN.keepsX IA.recs (.inr (.inr rfl)) G1)
            have k1 : OwnS W1 w.heap.size (.slice KA kn kc) (keysL (a ++ takenN (-1) l)) := OwnN.other IA.keys G1 (fun g hg => OwnN.apart (by decide) IA.recs IA.keys hg)
            have s1 : OwnU W1 w.heap.size (.slice SA kn sc) (totsL (a ++ takenN (-1) l)) := OwnN.other IA.sums G1 (fun g hg => OwnN.apart (by decide) IA.recs IA.sums hg)
            have m1 : OwnS W1 w.heap.size (.slice CA cn cc) (keysL (takenN (-1) l)) := OwnN.other IA.came G1 (fun g hg => OwnN.apart (by decide) IA.recs IA.came hg)
            have hln := IA.ln
            rw [← hln] at R1 O1
            rw [World.size_alloc] at R1
            have x3 : W1.cell? ⟨wr.heap.size, 3, none⟩ = some (.string key) := by simp [World.cell?, hbx1]
            have hfewA : (a ++ takenN (-1) l).length ≤ 540 := by
              have h1 := HO.out.few
              have h2 := taken_len l
              have h3 := IA.few
              rw [List.length_append]; omega
            have hkl := keysL_le (a ++ takenN (-1) l)
            have C1 := Lib.hid (find_calls (keysL (a ++ takenN (-1) l)) (by omega) key (.slice KA kn kc) W1 ((strs_row k1.old)))
            have HR1 := Lib.hid R1
            have H1 := Lib.hid (And.intro k1 (And.intro s1 (And.intro m1 (And.intro O1 (And.intro b1 (And.intro x1 hbx1))))))
            have HLN := Lib.hid hln
            have HKL := Lib.hid (Nat.le_trans hkl hfewA)
            clear hur hrc hr hrw hBA hrb hb0 HIA IA hqb R1 O1 G1 Z1 hown hbx1 b1 x1 k1 s1 m1 hln hfewA hkl
            go_wp2_with (at_builtin; refine wpList_append_ran rfl _ _ _ rfl rfl rfl HR1.out ?_)
            refine C1.out.mono ?_
            rintro e W2 ⟨z, rfl, hz, hB2⟩
            have HZ := Lib.hid hz
            have hk2 := H1.out.1.below hB2
            have hs2 := H1.out.2.1.below hB2
            have hx2 : W2.heap[wr.heap.size]? = some (rcO ⟨rp, rs, ra, key, val⟩) := (hB2.block _ (lt_of_some H1.out.2.2.2.2.2.2)).trans H1.out.2.2.2.2.2.2
            have H2 := Lib.hid (And.intro hk2 (And.intro hs2 (And.intro (H1.out.2.2.1.below hB2) (And.intro (H1.out.2.2.2.1.below hB2) (And.intro (H1.out.2.2.2.2.1.trans (hB2.mono H1.out.2.2.2.2.1.size)) (And.intro (H1.out.2.2.2.2.2.1.trans (KeepsX.grown (grown_of_below hB2) (fun j e => by cases e))) hx2))))))
            have hKN := HI.out.kn
            have HKN := Lib.hid hKN
            have HAP := Lib.hid HI.out.apart
            have HCN := Lib.hid HI.out.cn
            clear hz hk2 hs2 hB2 x3 C1 H1 HR1 hKN hu hks
            go_upto_region 19 with fail
            rcases HZ.out with ⟨rfl, hno⟩ | ⟨i0, rfl, hi0⟩
            · obtain ⟨hk2, hs2, hm2, ho2, hl2, hx2, hq2⟩ := H2.out
              obtain ⟨A2, c2, W3, R2, O2, G2, Z2⟩ := strs_append hk2 hl2.size key 35 (by have := HKL.out; omega)
              have b3 : Below w.heap.size w W3 := hl2.grown G2 hl2.size (fun g e => (OwnN.own hk2 e).1)
              have s3 : OwnU W3 w.heap.size (.slice SA kn sc) (totsL (a ++ takenN (-1) l)) := OwnN.other hs2 G2 (fun g hg => OwnN.apart (by decide) hk2 hs2 hg)
              have m3 : OwnS W3 w.heap.size (.slice CA cn cc) (keysL (takenN (-1) l)) := OwnN.other hm2 G2 (fun g hg => HAP.out g hg)
              have o3 : OwnRc W3 w.heap.size (.slice A1 (ln + 1) c1) (l ++ [⟨rp, rs, ra, key, val⟩]) := OwnN.other ho2 G2 (fun g hg => OwnN.apart (by decide) hk2 ho2 hg)
              have q3 : W3.heap[wr.heap.size]? = some (rcO ⟨rp, rs, ra, key, val⟩) := (G2.block _ (lt_of_some hq2) (fun e => by
                obtain ⟨cs, fz, ht⟩ := OwnN.typed hk2 e.symm
                rw [hq2] at ht
                simp at ht)).trans hq2
              have x3 := hx2.trans (OwnN.keepsX hk2 (.inl rfl) G2)
              obtain ⟨A3, c3, W4, R3, O3, G3, Z3⟩ := u32s_append s3 b3.size 0 36 (by have := HKL.out; rw [totsL_length]; omega)
              have k4 : OwnS W4 w.heap.size (.slice A2 ((keysL (a ++ takenN (-1) l)).length + 1) c2) (keysL (a ++ takenN (-1) l) ++ [key]) := OwnN.other O2 G3 (fun g hg => OwnN.apart (by decide) s3 O2 hg)
              have HF : Hid (InvR w a l ⟨rp, rs, ra, key, val⟩ cn ln wr.heap.size (.slice A2 (kn + 1) c2) (.slice CA cn cc) (.slice A1 (ln + 1) c1) wO W4) := Lib.hid ⟨HCN.out, OwnN.other m3 G3 (fun g hg => OwnN.apart (by decide) s3 m3 hg), OwnN.other o3 G3 (fun g hg => OwnN.apart (by decide) s3 o3 hg), b3.grown G3 b3.size (fun g e => (OwnN.own s3 e).1), x3.trans (OwnN.keepsX s3 (.inr (.inl rfl)) G3), (G3.block _ (lt_of_some q3) (fun e => by
                obtain ⟨cs, fz, ht⟩ := OwnN.typed s3 e.symm
                rw [q3] at ht
                simp at ht)).trans q3, fun g hg e => by
                rw [← HKN.out] at Z2
                rcases Z2 with h | h
                · exact HAP.out g (h ▸ hg) e
                · rw [h] at hg
                  simp only [Option.some.injEq] at hg
                  have := (OwnN.own hm2 e).2
                  omega, HLN.out⟩
              have HM := Lib.hid (mid_new (p := ⟨key, val⟩) hno HRW.out.2.1)
              rw [totsL_length] at R3 O3
              rw [← HKN.out] at R2 R3 O3 k4 HM
              rw [show ((0 : Nat) : Int) = 0 from rfl] at R3
              have HR2 := Lib.hid R2
              have HR3 := Lib.hid R3
              have HK4 := Lib.hid k4
              have HO3 := Lib.hid O3
              have hwk : IntKind.i64.wrap (((kn + 1 : Nat) : Int) - 1) = (kn : Int) := by have := HKL.out; have := HKN.out; rw [IntKind.wrap_i64]; omega
              have HK2L : Hid (kn + 1 = (keysL (a ++ takenN (-1) l) ++ [key]).length) := Lib.hid (by rw [List.length_append, ← HKN.out]; rfl)
              obtain ⟨y3, -⟩ := (show W2.cell? ⟨wr.heap.size, 3, none⟩ = some (.string key) ∧ True from ⟨by simp [World.cell?, hq2], trivial⟩)
              clear hk2 hs2 hm2 ho2 hl2 hx2 hq2 R2 O2 G2 Z2 b3 s3 m3 o3 q3 x3 R3 O3 G3 Z3 k4 hno
              have hzz : ((-1 : Int) < 0) := by decide
              have hzd : decide ((-1 : Int) < 0) = true := by decide
              go_upto_region 22 with (at_builtin; first | refine wpList_append_ran rfl _ _ _ rfl rfl rfl HR2.out ?_ | refine wpList_append_ran rfl _ _ _ rfl rfl rfl HR3.out ?_)
              rw [show wrap64 (kn : Int) = (kn : Int) by have := HKL.out; have := HKN.out; rw [wrap64]; omega]
              have HC := Lib.hid (And.intro HK2L.out (And.intro HM.out (And.intro HK4.out (And.intro HO3.out HF.out))))
              clear HK2L HM HK4 HO3 HF hzz hzd HR2 HR3 y3
              obtain ⟨hkn2, hM, hK, hT, hR⟩ := HC.out
              obtain ⟨sg, rfl, hsg, hsgb, t0, t1, htl, htc, hset⟩ := u32_at hT hM.lt
              obtain ⟨hset1, hset2⟩ := hset (((totsL (a ++ takenN (-1) l) ++ [0]).getD kn 0 + val) % 4294967296)
              have hq3 : W4.cell? ⟨wr.heap.size, 3, none⟩ = some (.string key) := by simp [World.cell?, hR.box]
              have hq4 : W4.cell? ⟨wr.heap.size, 4, none⟩ = some (.int .u32 (val : Int)) := by simp [World.cell?, hR.box]
              obtain ⟨tv, htv⟩ : ∃ tv, (totsL (a ++ takenN (-1) l) ++ [0]).getD kn 0 = tv := ⟨_, rfl⟩
              rw [htv] at t0 hset1 hset2
              have hw32 : IntKind.u32.wrap ((tv : Int) + (val : Int)) = (((tv + val) % 4294967296 : Nat) : Int) := by
                unfold IntKind.wrap; simp [IntKind.signed, IntKind.bits]
              have hjI : (kn : Int) < (((kn + 1) : Nat) : Int) := by rw [htl]; have := hM.lt; omega
              have hj0 : (0 : Int) ≤ (kn : Int) := by omega
              have hcast : (((tv + val) % 4294967296 : Nat) : Int) = ((tv : Int) + (val : Int)) % 4294967296 := by omega
              rw [hcast] at hset1 hset2
              obtain ⟨W5, hW5⟩ : ∃ W5, (W4.setCell ⟨sg, kn, none⟩ (.int .u32 (((tv : Int) + (val : Int)) % 4294967296))).drew = W5 := ⟨_, rfl⟩
              have g5 : W4.grownBy W5 (Value.slice (some ⟨sg, 0, none⟩) (kn + 1) c3).ownBlock := by rw [← hW5]; exact ⟨hset2.os, hset2.tape, hset2.output, hset2.size, hset2.block⟩
              have u5 : OwnU W5 w.heap.size (.slice (some ⟨sg, 0, none⟩) (kn + 1) c3) ((totsL (a ++ takenN (-1) l) ++ [0]).set kn ((tv + val) % 4294967296)) := by rw [← hW5]; exact OwnN.keep hset1 (fun _ _ => rfl)
              have k5 : OwnS W5 w.heap.size (.slice A2 (kn + 1) c2) (keysL (a ++ takenN (-1) l) ++ [key]) := OwnN.other hK g5 (fun g hg => OwnN.apart (by decide) hT hK hg)
              have m5 : OwnS W5 w.heap.size (.slice CA cn cc) (keysL (takenN (-1) l)) := OwnN.other hR.came g5 (fun g hg => OwnN.apart (by decide) hT hR.came hg)
              have o5 : OwnRc W5 w.heap.size (.slice A1 (ln + 1) c1) (l ++ [⟨rp, rs, ra, key, val⟩]) := OwnN.other hR.recs g5 (fun g hg => OwnN.apart (by decide) hT hR.recs hg)
              have q5 : W5.heap[wr.heap.size]? = some (rcO ⟨rp, rs, ra, key, val⟩) := (g5.block _ (lt_of_some hR.box) (fun e => by
                obtain ⟨cs, fz, ht⟩ := OwnN.typed hT e.symm
                rw [hR.box] at ht
                simp at ht)).trans hR.box
              have b5 : Below w.heap.size w W5 := hR.low.grown g5 hR.low.size (fun g e => (OwnN.own hT e).1)
              have x5 := hR.keeps.trans (OwnN.keepsX hT (.inr (.inl rfl)) g5)
              have q53 : W5.cell? ⟨wr.heap.size, 3, none⟩ = some (.string key) := by simp [World.cell?, q5]
              have hcl : (keysL (takenN (-1) l)).length ≤ 540 := by
                have h1 := keysL_le (takenN (-1) l)
                have h2 := taken_len l
                have h3 := HI.out.few
                omega
              have C2 := Lib.hid (find_calls (keysL (takenN (-1) l)) (by omega) key (.slice CA cn cc) W5 (strs_row m5.old))
              have H5 := Lib.hid (And.intro k5 (And.intro u5 (And.intro m5 (And.intro o5 (And.intro b5 (And.intro x5 q5))))))
              have HM := Lib.hid hM
              have HTV := Lib.hid htv
              have HKN2 := Lib.hid hkn2
              have HRA := Lib.hid (And.intro hR.cn (And.intro hR.ln hR.apart))
              have HW5 := Lib.hid hW5
              have HCL := Lib.hid hcl
              clear hset htv hkn2 htl HC hset1 hset2 hcast hW5 g5 u5 k5 m5 o5 q5 b5 x5 hcl hsgb hK hT hR hM
              go_region
              rw [HW5.out]
              clear hq3 hq4 t0 t1 hw32
              go_wp2_with fail
              refine C2.out.mono ?_
              rintro e W6 ⟨z2, rfl, hz2, hB6⟩
              have HB6 := Lib.hid hB6
              have HT1 : Hid (a ++ takenN (-1) (l ++ [⟨rp, rs, ra, key, val⟩]) = (a ++ takenN (-1) l) ++ [⟨key, val⟩]) := Lib.hid (by rw [taken_snoc, List.append_assoc])
              have HBASE : Hid ((kn + 1) = (keysL (a ++ takenN (-1) (l ++ [⟨rp, rs, ra, key, val⟩]))).length ∧ ln + 1 = (l ++ [(⟨rp, rs, ra, key, val⟩ : Rc)]).length ∧ (l ++ [(⟨rp, rs, ra, key, val⟩ : Rc)]).length ≤ k + 1 ∧ (∀ r ∈ l ++ [(⟨rp, rs, ra, key, val⟩ : Rc)], r.key.size ≤ 32) ∧ wfR (l ++ [⟨rp, rs, ra, key, val⟩]) ∧
                  OwnS W6 w.heap.size (.slice A2 (kn + 1) c2) (keysL (a ++ takenN (-1) (l ++ [⟨rp, rs, ra, key, val⟩]))) ∧ OwnU W6 w.heap.size (.slice (some ⟨sg, 0, none⟩) (kn + 1) c3) (totsL (a ++ takenN (-1) (l ++ [⟨rp, rs, ra, key, val⟩])))) := Lib.hid ⟨by rw [HT1.out, ← HM.out.keys]; exact HKN2.out, by rw [List.length_append, ← HRA.out.2.1]; rfl, by rw [List.length_append]; have := HI.out.few; simp; omega, (fun r hr => by
                  rcases List.mem_append.1 hr with h | h
                  · exact HI.out.short r h
                  · obtain rfl := List.mem_singleton.1 h
                    show key.size ≤ 32; rw [HKS.out]; exact h32), (fun r hr => by
                  rcases List.mem_append.1 hr with h | h
                  · exact HI.out.wf r h
                  · obtain rfl := List.mem_singleton.1 h
                    exact HRW.out), by rw [HT1.out, ← HM.out.keys]; exact OwnN.below H5.out.1 hB6, by rw [HT1.out, ← HM.out.tots, HTV.out]; exact OwnN.below H5.out.2.1 hB6⟩
              have HREST := Lib.hid (And.intro (OwnN.below H5.out.2.2.1 hB6) (And.intro (OwnN.below H5.out.2.2.2.1 hB6) (And.intro (H5.out.2.2.2.2.1.trans (hB6.mono H5.out.2.2.2.2.1.size)) (And.intro (H5.out.2.2.2.2.2.1.trans (KeepsX.grown (grown_of_below hB6) (fun j e => by cases e))) ((hB6.block _ (lt_of_some H5.out.2.2.2.2.2.2)).trans H5.out.2.2.2.2.2.2)))))
              clear hB6 C2 q53
              rcases hz2 with ⟨rfl, hno2⟩ | ⟨i1, rfl, hi1⟩
              · obtain ⟨h1, h2, h3, h4, h5⟩ := HREST.out
                obtain ⟨A7, c7, W7, R7, O7, G7, Z7⟩ := strs_append h1 h3.size key 35 (by have := HCL.out; omega)
                rw [← HRA.out.1] at R7 O7 Z7
                have HR7 := Lib.hid R7
                have q63 : W6.cell? ⟨wr.heap.size, 3, none⟩ = some (.string key) := by simp [World.cell?, h5]
                have HF : Hid (InvI w a (k + 1) (kn + 1) (cn + 1) (ln + 1) (.slice A2 (kn + 1) c2) (.slice (some ⟨sg, 0, none⟩) (kn + 1) c3) (.slice A7 (cn + 1) c7) (.slice A1 (ln + 1) c1) (l ++ [⟨rp, rs, ra, key, val⟩]) wO W7) := Lib.hid
                  { kn := HBASE.out.1
                    cn := by rw [taken_snoc, keysL_snoc, if_neg hno2, List.length_append, ← HRA.out.1]; rfl
                    ln := HBASE.out.2.1, few := HBASE.out.2.2.1, short := HBASE.out.2.2.2.1, wf := HBASE.out.2.2.2.2.1
                    keys := OwnN.other HBASE.out.2.2.2.2.2.1 G7 (fun g hg hk => HRA.out.2.2 g hk hg)
                    sums := OwnN.other HBASE.out.2.2.2.2.2.2 G7 (fun g hg => OwnN.apart (by decide) h1 HBASE.out.2.2.2.2.2.2 hg)
                    came := by rw [taken_snoc, keysL_snoc, if_neg hno2]; exact O7
                    recs := OwnN.other h2 G7 (fun g hg => OwnN.apart (by decide) h1 h2 hg)
                    low := h3.grown G7 h3.size (fun g e => (OwnN.own h1 e).1)
                    keeps := h4.trans (OwnN.keepsX h1 (.inl rfl) G7)
                    apart := fun g hg e => by
                      rcases Z7 with h | h
                      · exact HRA.out.2.2 g hg (h ▸ e)
                      · rw [h] at e
                        simp only [Option.some.injEq] at e
                        have := (OwnN.own HBASE.out.2.2.2.2.2.1 hg).2
                        omega }
                have hzz : ((-1 : Int) < 0) := by decide
                have hzd : decide ((-1 : Int) < 0) = true := by decide
                clear h1 h2 h3 h4 h5 R7 O7 G7 Z7 hno2
                go_wp2_with (at_builtin; refine wpList_append_ran rfl _ _ _ rfl rfl rfl HR7.out ?_)
                go_roundw
                case rel => exact ⟨k + 1, _, _, _, _, _, _, _, _, _, _, _, _, rfl, rfl, rfl, rfl, by go_num, by omega, by omega, HF⟩
                case measure => simp [intOf]; omega
              · have hmem : (⟨key, val⟩ : Pr).key ∈ keysL (takenN (-1) l) := List.mem_of_getElem? hi1
                have HF : Hid (InvI w a (k + 1) (kn + 1) cn (ln + 1) (.slice A2 (kn + 1) c2) (.slice (some ⟨sg, 0, none⟩) (kn + 1) c3) (.slice CA cn cc) (.slice A1 (ln + 1) c1) (l ++ [⟨rp, rs, ra, key, val⟩]) wO W6) := Lib.hid
                  { kn := HBASE.out.1
                    cn := by rw [taken_snoc, keysL_snoc, if_pos hmem, ← HRA.out.1]
                    ln := HBASE.out.2.1, few := HBASE.out.2.2.1, short := HBASE.out.2.2.2.1, wf := HBASE.out.2.2.2.2.1
                    keys := HBASE.out.2.2.2.2.2.1
                    sums := HBASE.out.2.2.2.2.2.2
                    came := by rw [taken_snoc, keysL_snoc, if_pos hmem]; exact HREST.out.1
                    recs := HREST.out.2.1
                    low := HREST.out.2.2.1
                    keeps := HREST.out.2.2.2.1
                    apart := HRA.out.2.2 }
                have hz1 : ¬ (i1 : Int) < 0 := by omega
                have hzd : decide ((i1 : Int) < 0) = false := decide_eq_false hz1
                clear hi1 hmem
                go_wp2_with fail
                go_roundw
                case rel => exact ⟨k + 1, _, _, _, _, _, _, _, _, _, _, _, _, rfl, rfl, rfl, rfl, by go_num, by omega, by omega, HF⟩
                case measure => simp [intOf]; omega
            · have hz0 : ¬ (i0 : Int) < 0 := by omega
              have HF := Lib.hid (mid_old (p := ⟨key, val⟩) hi0)
              clear hi0
              go_upto_region 22 with fail
              have HC := Lib.hid (And.intro HKN.out (And.intro HF.out (And.intro H2.out.1 (And.intro H2.out.2.1 (InvR.mk (a := a) HCN.out H2.out.2.2.1 H2.out.2.2.2.1 H2.out.2.2.2.2.1 H2.out.2.2.2.2.2.1 H2.out.2.2.2.2.2.2 HAP.out HLN.out)))))
              obtain ⟨hkn2, hM, hK, hT, hR⟩ := HC.out
              obtain ⟨sg, rfl, hsg, hsgb, t0, t1, htl, htc, hset⟩ := u32_at hT hM.lt
              obtain ⟨hset1, hset2⟩ := hset (((totsL (a ++ takenN (-1) l)).getD i0 0 + val) % 4294967296)
              have hq3 : W2.cell? ⟨wr.heap.size, 3, none⟩ = some (.string key) := by simp [World.cell?, hR.box]
              have hq4 : W2.cell? ⟨wr.heap.size, 4, none⟩ = some (.int .u32 (val : Int)) := by simp [World.cell?, hR.box]
              obtain ⟨tv, htv⟩ : ∃ tv, (totsL (a ++ takenN (-1) l)).getD i0 0 = tv := ⟨_, rfl⟩
              rw [htv] at t0 hset1 hset2
              have hw32 : IntKind.u32.wrap ((tv : Int) + (val : Int)) = (((tv + val) % 4294967296 : Nat) : Int) := by
                unfold IntKind.wrap; simp [IntKind.signed, IntKind.bits]
              have hjI : (i0 : Int) < ((kn : Nat) : Int) := by rw [htl]; have := hM.lt; omega
              have hj0 : (0 : Int) ≤ (i0 : Int) := by omega
              have hcast : (((tv + val) % 4294967296 : Nat) : Int) = ((tv : Int) + (val : Int)) % 4294967296 := by omega
              rw [hcast] at hset1 hset2
              obtain ⟨W5, hW5⟩ : ∃ W5, (W2.setCell ⟨sg, i0, none⟩ (.int .u32 (((tv : Int) + (val : Int)) % 4294967296))).drew = W5 := ⟨_, rfl⟩
              have g5 : W2.grownBy W5 (Value.slice (some ⟨sg, 0, none⟩) kn sc).ownBlock := by rw [← hW5]; exact ⟨hset2.os, hset2.tape, hset2.output, hset2.size, hset2.block⟩
              have u5 : OwnU W5 w.heap.size (.slice (some ⟨sg, 0, none⟩) kn sc) ((totsL (a ++ takenN (-1) l)).set i0 ((tv + val) % 4294967296)) := by rw [← hW5]; exact OwnN.keep hset1 (fun _ _ => rfl)
              have k5 : OwnS W5 w.heap.size (.slice KA kn kc) (keysL (a ++ takenN (-1) l)) := OwnN.other hK g5 (fun g hg => OwnN.apart (by decide) hT hK hg)
              have m5 : OwnS W5 w.heap.size (.slice CA cn cc) (keysL (takenN (-1) l)) := OwnN.other hR.came g5 (fun g hg => OwnN.apart (by decide) hT hR.came hg)
              have o5 : OwnRc W5 w.heap.size (.slice A1 (ln + 1) c1) (l ++ [⟨rp, rs, ra, key, val⟩]) := OwnN.other hR.recs g5 (fun g hg => OwnN.apart (by decide) hT hR.recs hg)
              have q5 : W5.heap[wr.heap.size]? = some (rcO ⟨rp, rs, ra, key, val⟩) := (g5.block _ (lt_of_some hR.box) (fun e => by
                obtain ⟨cs, fz, ht⟩ := OwnN.typed hT e.symm
                rw [hR.box] at ht
                simp at ht)).trans hR.box
              have b5 : Below w.heap.size w W5 := hR.low.grown g5 hR.low.size (fun g e => (OwnN.own hT e).1)
              have x5 := hR.keeps.trans (OwnN.keepsX hT (.inr (.inl rfl)) g5)
              have q53 : W5.cell? ⟨wr.heap.size, 3, none⟩ = some (.string key) := by simp [World.cell?, q5]
              have hcl : (keysL (takenN (-1) l)).length ≤ 540 := by
                have h1 := keysL_le (takenN (-1) l)
                have h2 := taken_len l
                have h3 := HI.out.few
                omega
              have C2 := Lib.hid (find_calls (keysL (takenN (-1) l)) (by omega) key (.slice CA cn cc) W5 (strs_row m5.old))
              have H5 := Lib.hid (And.intro k5 (And.intro u5 (And.intro m5 (And.intro o5 (And.intro b5 (And.intro x5 q5))))))
              have HM := Lib.hid hM
              have HTV := Lib.hid htv
              have HKN2 := Lib.hid hkn2
              have HRA := Lib.hid (And.intro hR.cn (And.intro hR.ln hR.apart))
              have HW5 := Lib.hid hW5
              have HCL := Lib.hid hcl
              clear hset htv hkn2 htl HC hset1 hset2 hcast hW5 g5 u5 k5 m5 o5 q5 b5 x5 hcl hsgb hK hT hR hM
              go_region
              rw [HW5.out]
              clear hq3 hq4 t0 t1 hw32
              go_wp2_with fail
              refine C2.out.mono ?_
              rintro e W6 ⟨z2, rfl, hz2, hB6⟩
              have HB6 := Lib.hid hB6
              have HT1 : Hid (a ++ takenN (-1) (l ++ [⟨rp, rs, ra, key, val⟩]) = (a ++ takenN (-1) l) ++ [⟨key, val⟩]) := Lib.hid (by rw [taken_snoc, List.append_assoc])
              have HBASE : Hid (kn = (keysL (a ++ takenN (-1) (l ++ [⟨rp, rs, ra, key, val⟩]))).length ∧ ln + 1 = (l ++ [(⟨rp, rs, ra, key, val⟩ : Rc)]).length ∧ (l ++ [(⟨rp, rs, ra, key, val⟩ : Rc)]).length ≤ k + 1 ∧ (∀ r ∈ l ++ [(⟨rp, rs, ra, key, val⟩ : Rc)], r.key.size ≤ 32) ∧ wfR (l ++ [⟨rp, rs, ra, key, val⟩]) ∧
                  OwnS W6 w.heap.size (.slice KA kn kc) (keysL (a ++ takenN (-1) (l ++ [⟨rp, rs, ra, key, val⟩]))) ∧ OwnU W6 w.heap.size (.slice (some ⟨sg, 0, none⟩) kn sc) (totsL (a ++ takenN (-1) (l ++ [⟨rp, rs, ra, key, val⟩])))) := Lib.hid ⟨by rw [HT1.out, ← HM.out.keys]; exact HKN2.out, by rw [List.length_append, ← HRA.out.2.1]; rfl, by rw [List.length_append]; have := HI.out.few; simp; omega, (fun r hr => by
                  rcases List.mem_append.1 hr with h | h
                  · exact HI.out.short r h
                  · obtain rfl := List.mem_singleton.1 h
                    show key.size ≤ 32; rw [HKS.out]; exact h32), (fun r hr => by
                  rcases List.mem_append.1 hr with h | h
                  · exact HI.out.wf r h
                  · obtain rfl := List.mem_singleton.1 h
                    exact HRW.out), by rw [HT1.out, ← HM.out.keys]; exact OwnN.below H5.out.1 hB6, by rw [HT1.out, ← HM.out.tots, HTV.out]; exact OwnN.below H5.out.2.1 hB6⟩
              have HREST := Lib.hid (And.intro (OwnN.below H5.out.2.2.1 hB6) (And.intro (OwnN.below H5.out.2.2.2.1 hB6) (And.intro (H5.out.2.2.2.2.1.trans (hB6.mono H5.out.2.2.2.2.1.size)) (And.intro (H5.out.2.2.2.2.2.1.trans (KeepsX.grown (grown_of_below hB6) (fun j e => by cases e))) ((hB6.block _ (lt_of_some H5.out.2.2.2.2.2.2)).trans H5.out.2.2.2.2.2.2)))))
              clear hB6 C2 q53
              rcases hz2 with ⟨rfl, hno2⟩ | ⟨i1, rfl, hi1⟩
              · obtain ⟨h1, h2, h3, h4, h5⟩ := HREST.out
                obtain ⟨A7, c7, W7, R7, O7, G7, Z7⟩ := strs_append h1 h3.size key 35 (by have := HCL.out; omega)
                rw [← HRA.out.1] at R7 O7 Z7
                have HR7 := Lib.hid R7
                have q63 : W6.cell? ⟨wr.heap.size, 3, none⟩ = some (.string key) := by simp [World.cell?, h5]
                have HF : Hid (InvI w a (k + 1) kn (cn + 1) (ln + 1) (.slice KA kn kc) (.slice (some ⟨sg, 0, none⟩) kn sc) (.slice A7 (cn + 1) c7) (.slice A1 (ln + 1) c1) (l ++ [⟨rp, rs, ra, key, val⟩]) wO W7) := Lib.hid
                  { kn := HBASE.out.1
                    cn := by rw [taken_snoc, keysL_snoc, if_neg hno2, List.length_append, ← HRA.out.1]; rfl
                    ln := HBASE.out.2.1, few := HBASE.out.2.2.1, short := HBASE.out.2.2.2.1, wf := HBASE.out.2.2.2.2.1
                    keys := OwnN.other HBASE.out.2.2.2.2.2.1 G7 (fun g hg hk => HRA.out.2.2 g hk hg)
                    sums := OwnN.other HBASE.out.2.2.2.2.2.2 G7 (fun g hg => OwnN.apart (by decide) h1 HBASE.out.2.2.2.2.2.2 hg)
                    came := by rw [taken_snoc, keysL_snoc, if_neg hno2]; exact O7
                    recs := OwnN.other h2 G7 (fun g hg => OwnN.apart (by decide) h1 h2 hg)
                    low := h3.grown G7 h3.size (fun g e => (OwnN.own h1 e).1)
                    keeps := h4.trans (OwnN.keepsX h1 (.inl rfl) G7)
                    apart := fun g hg e => by
                      rcases Z7 with h | h
                      · exact HRA.out.2.2 g hg (h ▸ e)
                      · rw [h] at e
                        simp only [Option.some.injEq] at e
                        have := (OwnN.own HBASE.out.2.2.2.2.2.1 hg).2
                        omega }
                have hzz : ((-1 : Int) < 0) := by decide
                have hzd : decide ((-1 : Int) < 0) = true := by decide
                clear h1 h2 h3 h4 h5 R7 O7 G7 Z7 hno2
                go_wp2_with (at_builtin; refine wpList_append_ran rfl _ _ _ rfl rfl rfl HR7.out ?_)
                go_roundw
                case rel => exact ⟨k + 1, _, _, _, _, _, _, _, _, _, _, _, _, rfl, rfl, rfl, rfl, by go_num, by omega, by omega, HF⟩
                case measure => simp [intOf]; omega
              · have hmem : (⟨key, val⟩ : Pr).key ∈ keysL (takenN (-1) l) := List.mem_of_getElem? hi1
                have HF : Hid (InvI w a (k + 1) kn cn (ln + 1) (.slice KA kn kc) (.slice (some ⟨sg, 0, none⟩) kn sc) (.slice CA cn cc) (.slice A1 (ln + 1) c1) (l ++ [⟨rp, rs, ra, key, val⟩]) wO W6) := Lib.hid
                  { kn := HBASE.out.1
                    cn := by rw [taken_snoc, keysL_snoc, if_pos hmem, ← HRA.out.1]
                    ln := HBASE.out.2.1, few := HBASE.out.2.2.1, short := HBASE.out.2.2.2.1, wf := HBASE.out.2.2.2.2.1
                    keys := HBASE.out.2.2.2.2.2.1
                    sums := HBASE.out.2.2.2.2.2.2
                    came := by rw [taken_snoc, keysL_snoc, if_pos hmem]; exact HREST.out.1
                    recs := HREST.out.2.1
                    low := HREST.out.2.2.1
                    keeps := HREST.out.2.2.2.1
                    apart := HRA.out.2.2 }
                have hz1 : ¬ (i1 : Int) < 0 := by omega
                have hzd : decide ((i1 : Int) < 0) = false := decide_eq_false hz1
                clear hi1 hmem
                go_wp2_with fail
                go_roundw
                case rel => exact ⟨k + 1, _, _, _, _, _, _, _, _, _, _, _, _, rfl, rfl, rfl, rfl, by go_num, by omega, by omega, HF⟩
                case measure => simp [intOf]; omega

          · have hd : decide (32 < ks) = true := decide_eq_true (by omega)
            have hd2 : (32 : Int) < (ks : Int) := by omega
            have HN1 := Lib.hid (HI.out.below hBA (Nat.le_succ k))
            clear hur hrc hr hrw hBA hrb hb0 HIA
            go_wp2_with fail
            go_roundw
            case rel => exact ⟨k + 1, _, _, _, _, _, _, _, _, _, _, _, l, rfl, rfl, rfl, rfl, by go_num, by omega, by omega, HN1⟩
            case measure => simp [intOf]; omega
        · have hexit : ¬ k < un ∨ (k < un ∧ ¬ k < 60) := by omega
          obtain ⟨hG, hgb, FA, fc, hst, hF⟩ := HOB.out wr HI.out.keeps
          obtain ⟨hu, -⟩ := HU.out wr HI.out.low
          obtain ⟨e0, -⟩ := box1 hgb
          obtain ⟨e1, -⟩ := box1 hst
          have hwps : wfP (takenN (-1) l) := fun p hp => by
            unfold takenN at hp
            obtain ⟨r, hr, rfl⟩ := List.mem_map.1 hp
            have := HI.out.wf r (List.mem_filter.1 hr).1
            exact ⟨this.1, this.2.1⟩
          have hkps : ∀ p ∈ takenN (-1) l, p.key.size ≤ 32 := fun p hp => by
            unfold takenN at hp
            obtain ⟨r, hr, rfl⟩ := List.mem_map.1 hp
            exact HI.out.short r (List.mem_filter.1 hr).1
          have hal : a.length ≤ 480 := by have := HO.out.few; omega
          have hpl : (takenN (-1) l).length ≤ 60 := by have := taken_len l; have := HI.out.few; omega
          have CR := Lib.hid (sumsRun_calls HO.out.short HO.out.wf (by omega) (recs := l) HI.out.wf (by have := HI.out.few; omega) b (.slice FA 3 fc) (.slice LA ln lc) wr hG hF.old (rcs_row HI.out.recs.old))
          have HPS := Lib.hid (And.intro hwps (And.intro hkps (And.intro hal hpl)))
          clear hG hgb hst hF hwps hkps hal hpl
          rcases hexit with hx | ⟨hx, hx'⟩
          · have hxI : ¬ (k : Int) < (un : Int) := by omega
            go_wp2_with fail
            refine CR.out.mono ?_
            rintro e w7 ⟨pv, fv, rfl, hP, hF7, hB7⟩
            obtain ⟨PA, pc, rfl, hpc⟩ := hP.form
            obtain ⟨FA7, fc7, rfl, hfc7⟩ := hF7.form
            have hpn : (foldedN 0 (takenN (-1) l) (foldedN 0 a [])).length = cn := by rw [folded_length, ← HI.out.cn]
            rw [hpn] at hP hpc ⊢
            have hB8 := (Below.refl w7.heap.size w7).alloc (Nat.le_refl _) (sObj (.slice FA7 3 fc7))
            have hB78 := hB7.trans (hB8.mono hB7.size)
            obtain ⟨hG, hgb, -⟩ := HOB.out wr HI.out.keeps
            have hG8 := hG.below hB78
            have hgb8 := (hB78.block _ (lt_of_some hgb)).trans hgb
            have hst8 := heap_alloc_new w7 (sObj (.slice FA7 3 fc7))
            have hF8 := hF7.below hB8
            have hP8 := OwnTwo.below hP hB8
            have hI8 := HI.out.below hB78 (Nat.le_refl k)
            have CG := Lib.hid (sumsGood_calls (a := a ++ takenN (-1) l) (fun p hp => by
              rcases List.mem_append.1 hp with h | h
              · exact HO.out.short p h
              · exact HPS.out.2.1 p h) (by rw [List.length_append]; have := HPS.out.2.2; omega) b (.slice FA7 3 fc7) (w7.alloc (sObj (.slice FA7 3 fc7))) hG8 hF8.old)
            obtain ⟨st2, hst2⟩ : ∃ st2, w7.heap.size = st2 := ⟨_, rfl⟩
            obtain ⟨w8, hw8⟩ : ∃ w8, w7.alloc (sObj (.slice FA7 3 fc7)) = w8 := ⟨_, rfl⟩
            have hstl : w.heap.size ≤ st2 := by rw [← hst2]; exact Nat.le_trans HI.out.low.size hB7.size
            rw [hw8] at CG hG8 hgb8 hst8 hF8 hP8 hI8
            rw [hst2] at hst8
            obtain ⟨f0, -⟩ := box1 hgb8
            obtain ⟨f1, -⟩ := box1 hst8
            have H8 := Lib.hid (And.intro hG8 (And.intro hgb8 (And.intro hst8 (And.intro (hF8.base HI.out.low.size) (And.intro hP8 (And.intro hI8 (And.intro hpn hstl)))))))
            have HW8 := Lib.hid (And.intro hst2 hw8)
            clear hP hF7 hB7 hB8 hB78 hG hgb hG8 hgb8 hst8 hF8 hP8 hI8 hpn hst2 hw8 hstl CR hu e0 e1 hfc7
            go_upto_region 26 with fail
            rw [HW8.out.1, HW8.out.2]
            clear HW8
            go_wp2_with fail
            refine CG.out.mono ?_
            rintro e w9 ⟨rfl, hB9⟩
            have HB9 := Lib.hid hB9
            clear hB9 CG f0 f1
            go_wp2_with fail
            go_loopw [16] (fun jv wr => ∃ q : Nat, jv = .int .i64 q ∧ q ≤ cn ∧ Hid (Below w8.heap.size w8 wr)) (fun j _ => cn - (intOf j).toNat)
            case atStart => exact ⟨0, rfl, Nat.zero_le _, HB9⟩
            case round =>
              obtain ⟨q, rfl, hq, HBr⟩ := hrel
              by_cases hql : q < cn
              · obtain ⟨hG8, hgb8, hst8, hF8, hP8, hI8, hpn, hstl⟩ := H8.out
                have hIr := hI8.below HBr.out (Nat.le_refl k)
                obtain ⟨x, hx⟩ : ∃ x, (foldedN 0 (takenN (-1) l) (foldedN 0 a []))[q]? = some x := ⟨_, List.getElem?_eq_getElem (by rw [hpn]; exact hql)⟩
                obtain ⟨xm1, xm2, xv⟩ := sums_out (List.mem_of_getElem? hx)
                obtain ⟨i1, hi1⟩ := List.getElem?_of_mem xm2
                obtain ⟨i2, hi2⟩ := List.getElem?_of_mem xm1
                have hPr := OwnTwo.below hP8 HBr.out
                obtain ⟨pb, po, rfl, hpb, hpc2⟩ := hPr.two.at (len := cn) (by omega)
                obtain ⟨z0, z1⟩ := hpc2 q x hx
                have hkl : (keysL (a ++ takenN (-1) l)).length ≤ 540 := by
                  have := keysL_le (a ++ takenN (-1) l)
                  rw [List.length_append] at this
                  have := HPS.out.2.2
                  omega
                have hcl : (keysL (takenN (-1) l)).length ≤ 540 := by
                  have := keysL_le (takenN (-1) l)
                  have := HPS.out.2.2
                  omega
                have C1 := Lib.hid (find_at (keysL (a ++ takenN (-1) l)) (by omega) (keysL_nodup _) x.key i1 hi1 (.slice KA kn kc) wr (strs_row hIr.keys.old))
                have hi1l : i1 < kn := by rw [hIr.kn]; exact (List.getElem?_eq_some_iff.1 hi1).1
                have hi1T : i1 < (totsL (a ++ takenN (-1) l)).length := by rw [totsL_length]; exact (List.getElem?_eq_some_iff.1 hi1).1
                have htg : (totsL (a ++ takenN (-1) l)).getD i1 0 = x.val := by rw [List.getD_eq_getElem?_getD, sums_at hi1, xv]; rfl
                have C2 := Lib.hid fun (W : World) (hW : Below wr.heap.size wr W) => find_at (keysL (takenN (-1) l)) (by omega) (keysL_nodup _) x.key i2 hi2 (.slice CA cn cc) W (strs_row (OwnN.below hIr.came hW).old)
                have hprev : ∀ y, q ≠ 0 → (foldedN 0 (takenN (-1) l) (foldedN 0 a []))[q - 1]? = some y → Op.bytesLess y.key.toList x.key.toList = true := fun y hq0 hy => by
                  obtain ⟨hl1, rfl⟩ := List.getElem?_eq_some_iff.1 hy
                  obtain ⟨hl2, rfl⟩ := List.getElem?_eq_some_iff.1 hx
                  exact List.pairwise_iff_getElem.1 (folded_rising 0 _ _) (q - 1) q hl1 hl2 (by omega)
                obtain ⟨sg, hsg, hsgl, -, t0, -, -, htc, -⟩ := u32_at hIr.sums hi1T
                subst hsg
                rw [htg] at t0
                have HX := Lib.hid hx
                have HPN := Lib.hid hpn
                have HPC := Lib.hid hpc2
                have HPREV := Lib.hid hprev
                have hqI : (q : Int) < (cn : Int) := by omega
                dsimp only [pk, pv] at z0 z1
                have hcn540 : cn ≤ 540 := by rw [hI8.cn]; exact hcl
                have hpl : pb < wr.heap.size := hpb.2
                clear hpb hIr hPr hx xm1 xm2 xv hi1 hi2 hkl hcl htg hprev hG8 hgb8 hst8 hF8 hP8 hI8 hpn hstl hpc2 hi1T
                go_wp2_with fail
                refine C1.out.mono ?_
                rintro e wA ⟨rfl, hBA⟩
                have s0 : wA.cell? ⟨sg, i1, none⟩ = some (.int .u32 (x.val : Int)) := by rw [← t0]; simp only [World.cell?, hBA.block _ hsgl]
                have s1 : wA.cell? ⟨pb, po + q * 2, none⟩ = some (.string x.key) := by rw [← z0]; simp only [World.cell?, hBA.block _ hpl]
                have s2 : wA.cell? ⟨pb, po + q * 2 + 1, none⟩ = some (.int .u32 (x.val : Int)) := by rw [← z1]; simp only [World.cell?, hBA.block _ hpl]
                have CC := Lib.hid fun d os => Calls.regrown_of (d := d) (os := os) (C2.out (grow (redrawn wA d) os) (hBA.trans ((below_regrown wA d os).mono hBA.size)))
                have u0 := fun d os => cell_regrown s0 d os
                have hz1 : decide ((i1 : Int) < 0) = false := decide_eq_false (by omega)
                have hz2 : decide ((i2 : Int) < 0) = false := decide_eq_false (by omega)
                have hne : (((x.val : Nat) : Int) != (x.val : Int)) = false := by simp
                have hi1I : (i1 : Int) < (kn : Int) := by omega
                have hB0 := Lib.hid (HBr.out.trans (hBA.mono HBr.out.size))
                by_cases hq0 : q = 0
                · subst hq0
                  rw [Nat.zero_mul, Nat.add_zero] at s1 s2
                  have u1 := fun d os => cell_regrown s1 d os
                  have u2 := fun d os => cell_regrown s2 d os
                  clear hBA s0 s1 s2 z0 z1 t0 C1 C2 HX HPN HPC HPREV hpl hsgl
                  go_upto_region 32 with fail
                  refine wp_region_quiet_below (by kernel_rfl) (by kernel_rfl) ?_
                  repeat (go_big_quiet_step ((first | with_reducible exact CC.out _ _ | (go_at_fn 12; exact CC.out _ _))))
                  refine wpQuiet_nil ?_
                  intro w' hw'
                  obtain ⟨⟨d, os⟩, rfl⟩ := hw'
                  have HB3 := Lib.hid (hB0.out.trans ((below_regrown wA d os).mono hB0.out.size))
                  clear CC u0 u1 u2
                  generalize grow (redrawn wA d) os = w3 at HB3 ⊢
                  go_wp2_with fail
                  go_roundw
                  case rel => exact ⟨1, rfl, hql, HB3⟩
                  case measure => simp [intOf]; omega
                · obtain ⟨q1, hqq⟩ : ∃ q1, q = q1 + 1 := ⟨q - 1, by omega⟩
                  have hq1c : q1 < cn := by omega
                  obtain ⟨y, hy⟩ : ∃ y, (foldedN 0 (takenN (-1) l) (foldedN 0 a []))[q1]? = some y := ⟨_, List.getElem?_eq_getElem (by rw [HPN.out]; exact hq1c)⟩
                  have hless := HPREV.out y hq0 (by rw [hqq, Nat.add_sub_cancel]; exact hy)
                  obtain ⟨v0, -⟩ := HPC.out q1 y hy
                  dsimp only [pk] at v0
                  have s3 : wA.cell? ⟨pb, po + q1 * 2, none⟩ = some (.string y.key) := by rw [← v0]; simp only [World.cell?, hBA.block _ hpl]
                  have u1 := fun d os => cell_regrown s1 d os
                  have u2 := fun d os => cell_regrown s2 d os
                  have u3 := fun d os => cell_regrown s3 d os
                  obtain ⟨hq1, hq3, hq5⟩ := wrap_prev hqq hql hcn540
                  have hq4 : decide ((0 : Int) < (q : Int)) = true := decide_eq_true hq3
                  have hq6 : 0 < q := Nat.pos_of_ne_zero hq0
                  have hq7 : decide (0 < q) = true := decide_eq_true hq6
                  have HQL := Lib.hid hql
                  clear hBA s0 s1 s2 s3 v0 hy z0 z1 t0 C1 C2 HX HPN HPC HPREV hpl hsgl hqq hq1c hq0
                  go_upto_region 32 with fail
                  refine wp_region_quiet_below (by kernel_rfl) (by kernel_rfl) ?_
                  repeat (go_big_quiet_step ((first | with_reducible exact CC.out _ _ | (go_at_fn 12; exact CC.out _ _))))
                  refine wpQuiet_nil ?_
                  intro w' hw'
                  obtain ⟨⟨d, os⟩, rfl⟩ := hw'
                  have HB3 := Lib.hid (hB0.out.trans ((below_regrown wA d os).mono hB0.out.size))
                  clear CC u0 u1 u2 u3
                  generalize grow (redrawn wA d) os = w3 at HB3 ⊢
                  go_wp2_with fail
                  go_roundw
                  case rel => exact ⟨q + 1, by go_num, HQL.out, HB3⟩
                  case measure => have := HQL.out; simp [intOf]; omega
              · obtain rfl : q = cn := by omega
                obtain ⟨hG8, hgb8, hst8, hF8, hP8, hI8, hpn, hstl⟩ := H8.out
                obtain ⟨-, -, FA0, fc0, hst0, -⟩ := HOB.out w8 hI8.keeps
                have hIr := hI8.below HBr.out (Nat.le_refl k)
                have hstr := (HBr.out.block _ (lt_of_some hst0)).trans hst0
                have hst2r := (HBr.out.block _ (lt_of_some hst8)).trans hst8
                obtain ⟨f0, f0'⟩ := box1 hstr
                obtain ⟨f1, -⟩ := box1 hst2r
                obtain ⟨W9, hW9⟩ : ∃ W9, wr.setCell ⟨st, 0, none⟩ (.slice FA7 3 fc7) = W9 := ⟨_, rfl⟩
                have hst9 : W9.heap[st]? = some (sObj (.slice FA7 3 fc7)) := by rw [← hW9]; exact stored1 hstr _
                have hoth : ∀ (g : Nat) (o : Obj), wr.heap[g]? = some o → (∀ cs fz, o ≠ .cells cs 33 fz) → W9.heap[g]? = some o := fun g o h1 h2 => by rw [← hW9]; exact store_state hstr _ h1 h2
                have hown : ∀ {α : Type} {K : Kd α} {e : TypeId} {v : Value} {m : List α}, OwnN K e wr w.heap.size v m → e ≠ 33 → OwnN K e W9 w.heap.size v m := fun {α K e v m} h he => h.keep fun g hg => by
                  obtain ⟨cs, fz, ht⟩ := OwnN.typed h hg
                  rw [ht]; exact hoth g _ ht (fun cs' fz' e' => he (by simp only [Obj.cells.injEq] at e'; exact e'.2.1))
                have hgrow : wr.grownBy W9 (some st) := by rw [← hW9]; exact ⟨rfl, rfl, rfl, (KeepsWalks.setCell wr _ _).size, fun k' _ hk' => Below.heap_setCell _ _ _ k' (fun e => hk' (by rw [e]))⟩
                have HNEXT : Hid (InvO w b st (i + 1) kn (.slice KA kn kc) (.slice SA kn sc) (a ++ takenN (-1) l) W9) := Lib.hid
                  { kn := hIr.kn
                    few := by rw [List.length_append]; have := HO.out.few; have := HPS.out.2.2.2; omega
                    short := fun p hp => by
                      rcases List.mem_append.1 hp with h | h
                      · exact HO.out.short p h
                      · exact HPS.out.2.1 p h
                    wf := HO.out.wf.append HPS.out.1
                    keys := hown hIr.keys (by decide)
                    sums := hown hIr.sums (by decide)
                    low := hIr.low.grown hgrow hIr.low.size (fun k' e => by cases e; exact HO.out.hst)
                    gr := ⟨hoth _ _ ((HBr.out.block _ (lt_of_some hG8.1)).trans hG8.1) (fun _ _ e => by simp at e), hoth _ _ ((HBr.out.block _ (lt_of_some hG8.2.1)).trans hG8.2.1) (fun _ _ e => by simp at e), hoth _ _ ((HBr.out.block _ (lt_of_some hG8.2.2)).trans hG8.2.2) (fun _ _ e => by simp at e)⟩
                    gb := hoth _ _ ((HBr.out.block _ (lt_of_some hgb8)).trans hgb8) (fun _ _ e => by simp at e)
                    fold := ⟨FA7, fc7, hst9, folds_typed (hF8.below HBr.out) (fun g cs t fz h1 h2 => by
                      rw [h1]; exact hoth g _ h1 (fun cs' fz' e' => by
                        simp only [Obj.cells.injEq] at e'
                        rcases h2 with h2 | h2 <;> · rw [h2] at e'; exact absurd e'.2.1 (by decide)))⟩
                    hb := HO.out.hb, hst := HO.out.hst
                    apart := fun g hg => by have := (OwnN.own hIr.keys hg).2; have := hgrow.size; omega }
                have HW9 := Lib.hid hW9
                have hqI : ¬ (q : Int) < (q : Int) := by omega
                clear hG8 hgb8 hst8 hF8 hP8 hI8 hpn hstl hst0 hIr hstr hst2r hW9 hst9 hoth hown hgrow
                go_wp2_with fail
                rw [HW9.out]
                go_roundw
                case rel => exact ⟨i + 1, _, _, _, _, _, _, rfl, rfl, by go_num, by omega, by omega, HNEXT⟩
                case measure => simp [intOf]; omega
          · have hxI : (k : Int) < (un : Int) := by omega
            have hxI2 : ¬ (k : Int) < 60 := by omega
            go_wp2_with fail
            refine CR.out.mono ?_
            rintro e w7 ⟨pv, fv, rfl, hP, hF7, hB7⟩
            obtain ⟨PA, pc, rfl, hpc⟩ := hP.form
            obtain ⟨FA7, fc7, rfl, hfc7⟩ := hF7.form
            have hpn : (foldedN 0 (takenN (-1) l) (foldedN 0 a [])).length = cn := by rw [folded_length, ← HI.out.cn]
            rw [hpn] at hP hpc ⊢
            have hB8 := (Below.refl w7.heap.size w7).alloc (Nat.le_refl _) (sObj (.slice FA7 3 fc7))
            have hB78 := hB7.trans (hB8.mono hB7.size)
            obtain ⟨hG, hgb, -⟩ := HOB.out wr HI.out.keeps
            have hG8 := hG.below hB78
            have hgb8 := (hB78.block _ (lt_of_some hgb)).trans hgb
            have hst8 := heap_alloc_new w7 (sObj (.slice FA7 3 fc7))
            have hF8 := hF7.below hB8
            have hP8 := OwnTwo.below hP hB8
            have hI8 := HI.out.below hB78 (Nat.le_refl k)
            have CG := Lib.hid (sumsGood_calls (a := a ++ takenN (-1) l) (fun p hp => by
              rcases List.mem_append.1 hp with h | h
              · exact HO.out.short p h
              · exact HPS.out.2.1 p h) (by rw [List.length_append]; have := HPS.out.2.2; omega) b (.slice FA7 3 fc7) (w7.alloc (sObj (.slice FA7 3 fc7))) hG8 hF8.old)
            obtain ⟨st2, hst2⟩ : ∃ st2, w7.heap.size = st2 := ⟨_, rfl⟩
            obtain ⟨w8, hw8⟩ : ∃ w8, w7.alloc (sObj (.slice FA7 3 fc7)) = w8 := ⟨_, rfl⟩
            have hstl : w.heap.size ≤ st2 := by rw [← hst2]; exact Nat.le_trans HI.out.low.size hB7.size
            rw [hw8] at CG hG8 hgb8 hst8 hF8 hP8 hI8
            rw [hst2] at hst8
            obtain ⟨f0, -⟩ := box1 hgb8
            obtain ⟨f1, -⟩ := box1 hst8
            have H8 := Lib.hid (And.intro hG8 (And.intro hgb8 (And.intro hst8 (And.intro (hF8.base HI.out.low.size) (And.intro hP8 (And.intro hI8 (And.intro hpn hstl)))))))
            have HW8 := Lib.hid (And.intro hst2 hw8)
            clear hP hF7 hB7 hB8 hB78 hG hgb hG8 hgb8 hst8 hF8 hP8 hI8 hpn hst2 hw8 hstl CR hu e0 e1 hfc7
            go_upto_region 26 with fail
            rw [HW8.out.1, HW8.out.2]
            clear HW8
            go_wp2_with fail
            refine CG.out.mono ?_
            rintro e w9 ⟨rfl, hB9⟩
            have HB9 := Lib.hid hB9
            clear hB9 CG f0 f1
            go_wp2_with fail
            go_loopw [16] (fun jv wr => ∃ q : Nat, jv = .int .i64 q ∧ q ≤ cn ∧ Hid (Below w8.heap.size w8 wr)) (fun j _ => cn - (intOf j).toNat)
            case atStart => exact ⟨0, rfl, Nat.zero_le _, HB9⟩
            case round =>
              obtain ⟨q, rfl, hq, HBr⟩ := hrel
              by_cases hql : q < cn
              · obtain ⟨hG8, hgb8, hst8, hF8, hP8, hI8, hpn, hstl⟩ := H8.out
                have hIr := hI8.below HBr.out (Nat.le_refl k)
                obtain ⟨x, hx⟩ : ∃ x, (foldedN 0 (takenN (-1) l) (foldedN 0 a []))[q]? = some x := ⟨_, List.getElem?_eq_getElem (by rw [hpn]; exact hql)⟩
                obtain ⟨xm1, xm2, xv⟩ := sums_out (List.mem_of_getElem? hx)
                obtain ⟨i1, hi1⟩ := List.getElem?_of_mem xm2
                obtain ⟨i2, hi2⟩ := List.getElem?_of_mem xm1
                have hPr := OwnTwo.below hP8 HBr.out
                obtain ⟨pb, po, rfl, hpb, hpc2⟩ := hPr.two.at (len := cn) (by omega)
                obtain ⟨z0, z1⟩ := hpc2 q x hx
                have hkl : (keysL (a ++ takenN (-1) l)).length ≤ 540 := by
                  have := keysL_le (a ++ takenN (-1) l)
                  rw [List.length_append] at this
                  have := HPS.out.2.2
                  omega
                have hcl : (keysL (takenN (-1) l)).length ≤ 540 := by
                  have := keysL_le (takenN (-1) l)
                  have := HPS.out.2.2
                  omega
                have C1 := Lib.hid (find_at (keysL (a ++ takenN (-1) l)) (by omega) (keysL_nodup _) x.key i1 hi1 (.slice KA kn kc) wr (strs_row hIr.keys.old))
                have hi1l : i1 < kn := by rw [hIr.kn]; exact (List.getElem?_eq_some_iff.1 hi1).1
                have hi1T : i1 < (totsL (a ++ takenN (-1) l)).length := by rw [totsL_length]; exact (List.getElem?_eq_some_iff.1 hi1).1
                have htg : (totsL (a ++ takenN (-1) l)).getD i1 0 = x.val := by rw [List.getD_eq_getElem?_getD, sums_at hi1, xv]; rfl
                have C2 := Lib.hid fun (W : World) (hW : Below wr.heap.size wr W) => find_at (keysL (takenN (-1) l)) (by omega) (keysL_nodup _) x.key i2 hi2 (.slice CA cn cc) W (strs_row (OwnN.below hIr.came hW).old)
                have hprev : ∀ y, q ≠ 0 → (foldedN 0 (takenN (-1) l) (foldedN 0 a []))[q - 1]? = some y → Op.bytesLess y.key.toList x.key.toList = true := fun y hq0 hy => by
                  obtain ⟨hl1, rfl⟩ := List.getElem?_eq_some_iff.1 hy
                  obtain ⟨hl2, rfl⟩ := List.getElem?_eq_some_iff.1 hx
                  exact List.pairwise_iff_getElem.1 (folded_rising 0 _ _) (q - 1) q hl1 hl2 (by omega)
                obtain ⟨sg, hsg, hsgl, -, t0, -, -, htc, -⟩ := u32_at hIr.sums hi1T
                subst hsg
                rw [htg] at t0
                have HX := Lib.hid hx
                have HPN := Lib.hid hpn
                have HPC := Lib.hid hpc2
                have HPREV := Lib.hid hprev
                have hqI : (q : Int) < (cn : Int) := by omega
                dsimp only [pk, pv] at z0 z1
                have hcn540 : cn ≤ 540 := by rw [hI8.cn]; exact hcl
                have hpl : pb < wr.heap.size := hpb.2
                clear hpb hIr hPr hx xm1 xm2 xv hi1 hi2 hkl hcl htg hprev hG8 hgb8 hst8 hF8 hP8 hI8 hpn hstl hpc2 hi1T
                go_wp2_with fail
                refine C1.out.mono ?_
                rintro e wA ⟨rfl, hBA⟩
                have s0 : wA.cell? ⟨sg, i1, none⟩ = some (.int .u32 (x.val : Int)) := by rw [← t0]; simp only [World.cell?, hBA.block _ hsgl]
                have s1 : wA.cell? ⟨pb, po + q * 2, none⟩ = some (.string x.key) := by rw [← z0]; simp only [World.cell?, hBA.block _ hpl]
                have s2 : wA.cell? ⟨pb, po + q * 2 + 1, none⟩ = some (.int .u32 (x.val : Int)) := by rw [← z1]; simp only [World.cell?, hBA.block _ hpl]
                have CC := Lib.hid fun d os => Calls.regrown_of (d := d) (os := os) (C2.out (grow (redrawn wA d) os) (hBA.trans ((below_regrown wA d os).mono hBA.size)))
                have u0 := fun d os => cell_regrown s0 d os
                have hz1 : decide ((i1 : Int) < 0) = false := decide_eq_false (by omega)
                have hz2 : decide ((i2 : Int) < 0) = false := decide_eq_false (by omega)
                have hne : (((x.val : Nat) : Int) != (x.val : Int)) = false := by simp
                have hi1I : (i1 : Int) < (kn : Int) := by omega
                have hB0 := Lib.hid (HBr.out.trans (hBA.mono HBr.out.size))
                by_cases hq0 : q = 0
                · subst hq0
                  rw [Nat.zero_mul, Nat.add_zero] at s1 s2
                  have u1 := fun d os => cell_regrown s1 d os
                  have u2 := fun d os => cell_regrown s2 d os
                  clear hBA s0 s1 s2 z0 z1 t0 C1 C2 HX HPN HPC HPREV hpl hsgl
                  go_upto_region 32 with fail
                  refine wp_region_quiet_below (by kernel_rfl) (by kernel_rfl) ?_
                  repeat (go_big_quiet_step ((first | with_reducible exact CC.out _ _ | (go_at_fn 12; exact CC.out _ _))))
                  refine wpQuiet_nil ?_
                  intro w' hw'
                  obtain ⟨⟨d, os⟩, rfl⟩ := hw'
                  have HB3 := Lib.hid (hB0.out.trans ((below_regrown wA d os).mono hB0.out.size))
                  clear CC u0 u1 u2
                  generalize grow (redrawn wA d) os = w3 at HB3 ⊢
                  go_wp2_with fail
                  go_roundw
                  case rel => exact ⟨1, rfl, hql, HB3⟩
                  case measure => simp [intOf]; omega
                · obtain ⟨q1, hqq⟩ : ∃ q1, q = q1 + 1 := ⟨q - 1, by omega⟩
                  have hq1c : q1 < cn := by omega
                  obtain ⟨y, hy⟩ : ∃ y, (foldedN 0 (takenN (-1) l) (foldedN 0 a []))[q1]? = some y := ⟨_, List.getElem?_eq_getElem (by rw [HPN.out]; exact hq1c)⟩
                  have hless := HPREV.out y hq0 (by rw [hqq, Nat.add_sub_cancel]; exact hy)
                  obtain ⟨v0, -⟩ := HPC.out q1 y hy
                  dsimp only [pk] at v0
                  have s3 : wA.cell? ⟨pb, po + q1 * 2, none⟩ = some (.string y.key) := by rw [← v0]; simp only [World.cell?, hBA.block _ hpl]
                  have u1 := fun d os => cell_regrown s1 d os
                  have u2 := fun d os => cell_regrown s2 d os
                  have u3 := fun d os => cell_regrown s3 d os
                  obtain ⟨hq1, hq3, hq5⟩ := wrap_prev hqq hql hcn540
                  have hq4 : decide ((0 : Int) < (q : Int)) = true := decide_eq_true hq3
                  have hq6 : 0 < q := Nat.pos_of_ne_zero hq0
                  have hq7 : decide (0 < q) = true := decide_eq_true hq6
                  have HQL := Lib.hid hql
                  clear hBA s0 s1 s2 s3 v0 hy z0 z1 t0 C1 C2 HX HPN HPC HPREV hpl hsgl hqq hq1c hq0
                  go_upto_region 32 with fail
                  refine wp_region_quiet_below (by kernel_rfl) (by kernel_rfl) ?_
                  repeat (go_big_quiet_step ((first | with_reducible exact CC.out _ _ | (go_at_fn 12; exact CC.out _ _))))
                  refine wpQuiet_nil ?_
                  intro w' hw'
                  obtain ⟨⟨d, os⟩, rfl⟩ := hw'
                  have HB3 := Lib.hid (hB0.out.trans ((below_regrown wA d os).mono hB0.out.size))
                  clear CC u0 u1 u2 u3
                  generalize grow (redrawn wA d) os = w3 at HB3 ⊢
                  go_wp2_with fail
                  go_roundw
                  case rel => exact ⟨q + 1, by go_num, HQL.out, HB3⟩
                  case measure => have := HQL.out; simp [intOf]; omega
              · obtain rfl : q = cn := by omega
                obtain ⟨hG8, hgb8, hst8, hF8, hP8, hI8, hpn, hstl⟩ := H8.out
                obtain ⟨-, -, FA0, fc0, hst0, -⟩ := HOB.out w8 hI8.keeps
                have hIr := hI8.below HBr.out (Nat.le_refl k)
                have hstr := (HBr.out.block _ (lt_of_some hst0)).trans hst0
                have hst2r := (HBr.out.block _ (lt_of_some hst8)).trans hst8
                obtain ⟨f0, f0'⟩ := box1 hstr
                obtain ⟨f1, -⟩ := box1 hst2r
                obtain ⟨W9, hW9⟩ : ∃ W9, wr.setCell ⟨st, 0, none⟩ (.slice FA7 3 fc7) = W9 := ⟨_, rfl⟩
                have hst9 : W9.heap[st]? = some (sObj (.slice FA7 3 fc7)) := by rw [← hW9]; exact stored1 hstr _
                have hoth : ∀ (g : Nat) (o : Obj), wr.heap[g]? = some o → (∀ cs fz, o ≠ .cells cs 33 fz) → W9.heap[g]? = some o := fun g o h1 h2 => by rw [← hW9]; exact store_state hstr _ h1 h2
                have hown : ∀ {α : Type} {K : Kd α} {e : TypeId} {v : Value} {m : List α}, OwnN K e wr w.heap.size v m → e ≠ 33 → OwnN K e W9 w.heap.size v m := fun {α K e v m} h he => h.keep fun g hg => by
                  obtain ⟨cs, fz, ht⟩ := OwnN.typed h hg
                  rw [ht]; exact hoth g _ ht (fun cs' fz' e' => he (by simp only [Obj.cells.injEq] at e'; exact e'.2.1))
                have hgrow : wr.grownBy W9 (some st) := by rw [← hW9]; exact ⟨rfl, rfl, rfl, (KeepsWalks.setCell wr _ _).size, fun k' _ hk' => Below.heap_setCell _ _ _ k' (fun e => hk' (by rw [e]))⟩
                have HNEXT : Hid (InvO w b st (i + 1) kn (.slice KA kn kc) (.slice SA kn sc) (a ++ takenN (-1) l) W9) := Lib.hid
                  { kn := hIr.kn
                    few := by rw [List.length_append]; have := HO.out.few; have := HPS.out.2.2.2; omega
                    short := fun p hp => by
                      rcases List.mem_append.1 hp with h | h
                      · exact HO.out.short p h
                      · exact HPS.out.2.1 p h
                    wf := HO.out.wf.append HPS.out.1
                    keys := hown hIr.keys (by decide)
                    sums := hown hIr.sums (by decide)
                    low := hIr.low.grown hgrow hIr.low.size (fun k' e => by cases e; exact HO.out.hst)
                    gr := ⟨hoth _ _ ((HBr.out.block _ (lt_of_some hG8.1)).trans hG8.1) (fun _ _ e => by simp at e), hoth _ _ ((HBr.out.block _ (lt_of_some hG8.2.1)).trans hG8.2.1) (fun _ _ e => by simp at e), hoth _ _ ((HBr.out.block _ (lt_of_some hG8.2.2)).trans hG8.2.2) (fun _ _ e => by simp at e)⟩
                    gb := hoth _ _ ((HBr.out.block _ (lt_of_some hgb8)).trans hgb8) (fun _ _ e => by simp at e)
                    fold := ⟨FA7, fc7, hst9, folds_typed (hF8.below HBr.out) (fun g cs t fz h1 h2 => by
                      rw [h1]; exact hoth g _ h1 (fun cs' fz' e' => by
                        simp only [Obj.cells.injEq] at e'
                        rcases h2 with h2 | h2 <;> · rw [h2] at e'; exact absurd e'.2.1 (by decide)))⟩
                    hb := HO.out.hb, hst := HO.out.hst
                    apart := fun g hg => by have := (OwnN.own hIr.keys hg).2; have := hgrow.size; omega }
                have HW9 := Lib.hid hW9
                have hqI : ¬ (q : Int) < (q : Int) := by omega
                clear hG8 hgb8 hst8 hF8 hP8 hI8 hpn hstl hst0 hIr hstr hst2r hW9 hst9 hoth hown hgrow
                go_wp2_with fail
                rw [HW9.out]
                go_roundw
                case rel => exact ⟨i + 1, _, _, _, _, _, _, rfl, rfl, by go_num, by omega, by omega, HNEXT⟩
                case measure => simp [intOf]; omega
    · have hkn := HO.out.kn
      obtain ⟨FA, fc, hst, hF⟩ := HO.out.fold
      obtain ⟨fb, fo, rfl, hfb, hfc⟩ := (hF.folds).at (len := 3) (by omega)
      obtain ⟨pu, hpu, hpo⟩ := hfc 1 (foldedN 0 a []) rfl
      obtain ⟨PA, pc, rfl, _⟩ := hpo.form
      have hfl : (foldedN 0 a []).length = kn := by rw [folded_length, ← hkn]
      rw [hfl] at hpu
      obtain ⟨s0, -⟩ := box1 hst
      have HF := Lib.hid HO.out.low
      clear hkn hst hF hfc hpo hfl HO hfb
      rcases (by omega : ¬ i < n ∨ (i < n ∧ ¬ i < 8)) with h | ⟨h, h'⟩
      · have hI : ¬ (i : Int) < (n : Int) := by omega
        go_wp2_with fail
        go_ret
        exact ⟨rfl, HF.out⟩
      · have hI : (i : Int) < (n : Int) := by omega
        have hI2 : ¬ (i : Int) < 8 := by omega
        go_wp2_with fail
        go_ret
        exact ⟨rfl, HF.out⟩
end Go.Proofs.Ytmfndimejnbgkaa.Model
