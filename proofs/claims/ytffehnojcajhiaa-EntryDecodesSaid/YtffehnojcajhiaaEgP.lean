/-
  Contract of the document's at. What the document's guess is as a plain function, and that its text tells whether it is right. Contract of the document's guess. Contract of the document's guess where it is a graph; of guess for every row of items.
-/
import Derived.Test.YtffehnojcajhiaaEgM
import Derived.Test.YtffehnojcajhiaaEgA
import Derived.Test.YtffehnojcajhiaaEgI
import Derived.Test.YtffehnojcajhiaaEgH
namespace Go.Proofs.Ytffehnojcajhiaa.Wire.Entry
open Go Go.RowKit Go.Proofs.Ytffehnojcajhiaa.Law

/-- The int at a place, else -1. -/
def atL (l : List Item) (i : Nat) : Int := match l[i]? with
  | some x => if x.kind = 0 then x.n else -1
  | none => -1

set_option maxRecDepth 100000 in
set_option maxHeartbeats 2000000 in
theorem at_calls (l : List Item) (hl : l.length ≤ 1048576) (i : Nat) (hi : i ≤ 1048576) (v : Value) (w : World) (hI : Old w.heap.size w v l) : Calls Try.prog 46 #[v, .int .i64 (i : Nat)] w (fun e W => e = .returned (.int .i64 (atL l i)) ∧ Below w.heap.size w W) := by
  obtain ⟨A, cap, rfl, _⟩ := hI.form
  obtain ⟨len, hlen⟩ : ∃ len, l.length = len := ⟨_, rfl⟩
  obtain ⟨z, hz⟩ : ∃ z, atL l i = z := ⟨_, rfl⟩
  rw [hlen] at hI ⊢
  rw [hz]
  have HL := Lib.hid hlen
  have HZ := Lib.hid hz
  have HB : Hid (Below w.heap.size w w) := Lib.hid (Below.refl _ _)
  by_cases hlt : i < len
  · obtain ⟨y, hy⟩ : ∃ y, l[i]? = some y := ⟨_, List.getElem?_eq_getElem (by rw [hlen]; exact hlt)⟩
    obtain ⟨jb, jo, rfl, hjb, hcells⟩ := hI.at (by omega)
    obtain ⟨uy, ⟨y0, y1, y2, y3⟩, _⟩ := hcells i y hy
    have HY := Lib.hid hy
    clear hcells hy hlen hz hI
    by_cases hk : y.kind = 0
    · obtain rfl : y.n = z := by rw [← HZ.out]; unfold atL; rw [HY.out]; exact (if_pos hk).symm
      rw [hk] at y0
      go_enter Try.func46, Try.ntmps46
      go_wp2_with fail
      go_ret
      exact ⟨rfl, HB.out⟩
    · obtain rfl : -1 = z := by rw [← HZ.out]; unfold atL; rw [HY.out]; exact (if_neg hk).symm
      have bk : ((y.kind : Int) == 0) = false := beq_eq_false_iff_ne.2 hk
      go_enter Try.func46, Try.ntmps46
      go_wp2_with fail
      go_ret
      exact ⟨rfl, HB.out⟩
  · obtain rfl : -1 = z := by
      rw [← HZ.out]; unfold atL
      rw [List.getElem?_eq_none (by rw [hlen]; omega)]
    clear hlen hz hI
    go_enter Try.func46, Try.ntmps46
    go_wp2_with fail
    go_ret
    exact ⟨rfl, HB.out⟩

set_option maxRecDepth 100000 in
set_option maxHeartbeats 2000000 in
theorem at_pure (l : List Item) (hl : l.length ≤ 1048576) (i : Nat) (hi : i ≤ 1048576) (v : Value) (w : World) (hI : Old w.heap.size w v l) : Calls Try.prog 46 #[v, .int .i64 (i : Nat)] w (fun e W => e = .returned (.int .i64 (atL l i)) ∧ w = W) := by
  obtain ⟨A, cap, rfl, _⟩ := hI.form
  obtain ⟨len, hlen⟩ : ∃ len, l.length = len := ⟨_, rfl⟩
  obtain ⟨z, hz⟩ : ∃ z, atL l i = z := ⟨_, rfl⟩
  rw [hlen] at hI ⊢
  rw [hz]
  have HL := Lib.hid hlen
  have HZ := Lib.hid hz
  by_cases hlt : i < len
  · obtain ⟨y, hy⟩ : ∃ y, l[i]? = some y := ⟨_, List.getElem?_eq_getElem (by rw [hlen]; exact hlt)⟩
    obtain ⟨jb, jo, rfl, hjb, hcells⟩ := hI.at (by omega)
    obtain ⟨uy, ⟨y0, y1, y2, y3⟩, _⟩ := hcells i y hy
    have HY := Lib.hid hy
    clear hcells hy hlen hz hI
    by_cases hk : y.kind = 0
    · obtain rfl : y.n = z := by rw [← HZ.out]; unfold atL; rw [HY.out]; exact (if_pos hk).symm
      rw [hk] at y0
      go_enter Try.func46, Try.ntmps46
      go_wp2_with fail
      go_ret
      exact ⟨rfl, rfl⟩
    · obtain rfl : -1 = z := by rw [← HZ.out]; unfold atL; rw [HY.out]; exact (if_neg hk).symm
      have bk : ((y.kind : Int) == 0) = false := beq_eq_false_iff_ne.2 hk
      go_enter Try.func46, Try.ntmps46
      go_wp2_with fail
      go_ret
      exact ⟨rfl, rfl⟩
  · obtain rfl : -1 = z := by
      rw [← HZ.out]; unfold atL
      rw [List.getElem?_eq_none (by rw [hlen]; omega)]
    clear hlen hz hI
    go_enter Try.func46, Try.ntmps46
    go_wp2_with fail
    go_ret
    exact ⟨rfl, rfl⟩

end Go.Proofs.Ytffehnojcajhiaa.Wire.Entry

namespace Go.Proofs.Ytffehnojcajhiaa.Wire.Entry
open Go.Proofs.Ytffehnojcajhiaa.Law

def u32N (n : Int) : Nat := (n % 4294967296).toNat
theorem u32N_lt (n : Int) : u32N n < 4294967296 := by unfold u32N; omega
theorem u32N_of {v : Nat} (h : v < 4294967296) : u32N (v : Int) = v := by unfold u32N; omega
def gIns (x : List Item) : List Int := match x[1]? with | some y => y.kids.map Item.n | none => []
def gOp (x : List Item) : Opr := ⟨atL x 0, gIns x, atL x 2, u32N (atL x 3), atL x 4, atL x 5, u32N (atL x 6)⟩
def gOps (l : List Item) : List Opr := match l[1]? with | some y => y.kids.map (fun z => gOp z.kids) | none => []
def gKey (l : List Item) : ByteArray := match l[4]? with | some y => y.s | none => noT
def guessE (l : List Item) : Ent :=
  if atL l 0 = 1 then ⟨1, ⟨atL l 1, atL l 2, atL l 3, gKey l, u32N (atL l 5)⟩, [], 0⟩ else if atL l 0 = 3 then ⟨3, zeroR, gOps l, 0⟩ else ⟨atL l 0, zeroR, [], atL l 1⟩

theorem gOp_of {o : Opr} (hw : o.wf) : gOp (opI o).kids = o := by
  obtain ⟨k, ins, a, m, r, t, l⟩ := o
  obtain ⟨-, -, -, h4, -, -, h7, -⟩ := hw
  show (⟨k, (insL ins).map Item.n, a, u32N (m : Nat), r, t, u32N (l : Nat)⟩ : Opr) = _
  rw [u32N_of h4, u32N_of h7, insL_n]
theorem gOps_of {l : List Opr} (hw : ∀ x ∈ l, x.wf) : (opsL l).map (fun z => gOp z.kids) = l := by
  unfold opsL
  rw [List.map_map]
  conv => rhs; rw [← List.map_id l]
  exact List.map_congr_left fun x hx => gOp_of (hw x hx)
theorem guess_msg {e : Ent} (hw : e.wf) (hg : e.good) (hk : e.kind ≠ 0) : guessE (msg e) = e := by
  obtain ⟨k, r, ops, n⟩ := e
  rcases hg with ⟨h1, h2, h3, h4⟩ | ⟨h1, h2, h3, h4⟩ | ⟨h1, h2, h3, h4⟩ | ⟨h1, h2, h3, h4⟩
  · exact absurd h1 hk
  · simp only at h1 h2 h3 h4
    subst h1 h3 h4
    obtain ⟨p, q, a, key, val⟩ := r
    have hv := hw.2.1.2.2.2.2
    show (⟨1, ⟨p, q, a, key, u32N (val : Nat)⟩, [], 0⟩ : Ent) = _
    rw [u32N_of hv]
  · simp only at h1 h2 h3 h4
    subst h1 h4
    rw [bare_eq h2]
    show (⟨3, zeroR, (opsL ops).map (fun z => gOp z.kids), 0⟩ : Ent) = _
    rw [gOps_of hw.2.2.1]
  · simp only at h1 h2 h3 h4
    subst h3
    rw [bare_eq h2]
    have hm : msg ⟨k, zeroR, [], n⟩ = [iI k, iI n] := by
      unfold msg
      simp only
      rw [if_neg (by omega), if_neg (by omega), if_neg (by omega)]
    rw [hm]
    unfold guessE
    have e0 : atL [iI k, iI n] 0 = k := rfl
    have e1 : atL [iI k, iI n] 1 = n := rfl
    rw [e0, e1, if_neg (by omega), if_neg (by omega)]

theorem atL_i64 {l : List Item} (hs : sizedL l) (i : Nat) : i64 (atL l i) := by
  unfold atL
  split
  · rename_i x hx
    split
    · exact sized_n hs (List.mem_of_getElem? hx)
    · exact ⟨by decide, by decide⟩
  · exact ⟨by decide, by decide⟩
theorem gOp_wf {x : Item} (hs : sizedL x.kids) (hn : nodesL x.kids ≤ 4096) : (gOp x.kids).wf := by
  refine ⟨atL_i64 hs 0, fun y hy => ?_, atL_i64 hs 2, u32N_lt _, atL_i64 hs 4, atL_i64 hs 5, u32N_lt _, ?_⟩
  · have hy : y ∈ gIns x.kids := hy
    unfold gIns at hy
    split at hy
    · rename_i z hz
      obtain ⟨q, hq, rfl⟩ := List.mem_map.1 hy
      exact sized_n (sized_kids (sizedL_mem hs (List.mem_of_getElem? hz))) hq
    · cases hy
  · show (gIns x.kids).length * 8 ≤ _
    unfold gIns
    split
    · rename_i z hz
      have h1 := nodes_mem (List.mem_of_getElem? hz)
      have h2 := nodes_kids z
      have h3 := @len_le_nodes z.kids
      rw [List.length_map]; omega
    · simp
theorem guess_wf {l : List Item} (hs : sizedL l) (hn : nodesL l ≤ 4096) (ht : strsL l ≤ 65536) : (guessE l).wf := by
  have z : i64 0 := ⟨by decide, by decide⟩
  have z1 : i64 1 := ⟨by decide, by decide⟩
  have z3 : i64 3 := ⟨by decide, by decide⟩
  have zr : zeroR.wf := ⟨z, z, z, by decide, by decide⟩
  unfold guessE
  split
  · refine ⟨z1, ⟨atL_i64 hs 1, atL_i64 hs 2, atL_i64 hs 3, ?_, u32N_lt _⟩, by simp, by simp, z⟩
    show (gKey l).size ≤ _
    unfold gKey
    split
    · rename_i y hy
      have := strs_mem (List.mem_of_getElem? hy)
      omega
    · decide
  · split
    · have hx : ∀ y, l[1]? = some y → sizedL y.kids ∧ nodesL y.kids ≤ 4096 ∧ y.kids.length ≤ 4096 := fun y hy => by
        have h1 := nodes_mem (List.mem_of_getElem? hy)
        have h2 := nodes_kids y
        have h3 := @len_le_nodes y.kids
        exact ⟨sized_kids (sizedL_mem hs (List.mem_of_getElem? hy)), by omega, by omega⟩
      refine ⟨z3, zr, fun o ho => ?_, ?_, z⟩
      · have ho : o ∈ gOps l := ho
        unfold gOps at ho
        split at ho
        · rename_i y hy
          obtain ⟨q, hq, rfl⟩ := List.mem_map.1 ho
          obtain ⟨h1, h2, h3⟩ := hx y hy
          have h4 := nodes_mem hq
          have h5 := nodes_kids q
          exact gOp_wf (sized_kids (sizedL_mem h1 hq)) (by omega)
        · cases ho
      · show (gOps l).length * 72 ≤ _
        unfold gOps
        split
        · rename_i y hy
          rw [List.length_map]
          have := (hx y hy).2.2
          omega
        · simp
    · exact ⟨atL_i64 hs 0, zr, by simp, by simp, atL_i64 hs 1⟩

/-- The guess is right just if its text is this one. -/
theorem guess_right {bs : List Nat} {l : List Item} (hb : ∀ x ∈ bs, x < 256) (hd : decN bs = .ok l) (h : encE (guessE l) = (bs, 0)) : decE bs = some (guessE l) := by
  have hk := dec_back hb hd
  have h1 := decE_enc (guess_wf hk.2.1 hk.2.2 (dec_short hb hd)) (by rw [h])
  rwa [h] at h1
theorem guess_wrong {bs : List Nat} {l : List Item} (hb : ∀ x ∈ bs, x < 256) (hd : decN bs = .ok l) (hl : l ≠ []) (h : encE (guessE l) ≠ (bs, 0)) : decE bs = none := by
  match hq : decE bs with
  | none => rfl
  | some e =>
    exfalso
    have h1 := encE_dec hb hq
    obtain ⟨l', h2, h3, h4⟩ := decE_some hq
    rw [hd] at h2
    obtain rfl : l = l' := by injection h2
    have hk := dec_back hb hd
    have hm := rdE_back (enc_ok' (by rw [hk.1])) h3
    have hw := dec_wf hb hd h3
    have hk0 : e.kind ≠ 0 := fun h0 => by
      rw [← hm] at hl
      unfold msg at hl
      rw [if_pos h0] at hl
      exact hl rfl
    have hg := guess_msg hw h4 hk0
    rw [hm] at hg
    rw [hg] at h
    exact h h1
theorem dec_empty {bs : List Nat} (hb : ∀ x ∈ bs, x < 256) (hd : decN bs = .ok []) : bs = [] := by
  have hk := dec_back hb hd
  have h1 : encN [] = (bs, 0) := hk.1
  have h2 : encN [] = ([], 0) := by decide +kernel
  rw [h2] at h1
  simp only [Prod.mk.injEq] at h1
  exact h1.1.symm
theorem decE_nil : decE [] = some zeroE := by
  have h1 : decN [] = .ok [] := by kernel_rfl
  exact decE_of h1 rfl (.inl ⟨rfl, zeroR_bare, rfl, rfl⟩)
theorem decE_err {bs : List Nat} {k : Nat} (h : decN bs = .error k) : decE bs = none := by unfold decE; rw [h]

end Go.Proofs.Ytffehnojcajhiaa.Wire.Entry

namespace Go.Proofs.Ytffehnojcajhiaa.Wire.Entry
open Go Go.RowKit Go.Proofs.Ytffehnojcajhiaa.Law

/-- What guess answers. -/
def RetGuess (w : World) (x : Ent) (e : Ending) (W : World) : Prop :=
  ∃ (A : Option Addr) (n c : Nat), e = .returned (entV x (.slice A n c)) ∧ OpsAt (fun k => w.heap.size ≤ k ∧ k < W.heap.size) W (.slice A n c) x.ops ∧ Below w.heap.size w W

theorem stored8_15 {W : World} {b : Nat} {a0 a1 a2 a3 a4 a5 a6 a7 : Value} {T : TypeId} (h : W.heap[b]? = some (.cells #[a0, a1, a2, a3, a4, a5, a6, a7] T)) (k1 k2 k3 k4 k5 : Value) :
    (((((W.setCell ⟨b, 1, none⟩ k1).setCell ⟨b, 2, none⟩ k2).setCell ⟨b, 3, none⟩ k3).setCell ⟨b, 4, none⟩ k4).setCell ⟨b, 5, none⟩ k5).heap[b]? = some (.cells #[a0, k1, k2, k3, k4, k5, a6, a7] T) := by
  simp [World.setCell, Array.getElem?_modify, h]
theorem set5_other {W : World} {b j : Nat} (h : j ≠ b) (k1 k2 k3 k4 k5 : Value) :
    (((((W.setCell ⟨b, 1, none⟩ k1).setCell ⟨b, 2, none⟩ k2).setCell ⟨b, 3, none⟩ k3).setCell ⟨b, 4, none⟩ k4).setCell ⟨b, 5, none⟩ k5).heap[j]? = W.heap[j]? := by
  rw [Below.heap_setCell _ _ _ _ h, Below.heap_setCell _ _ _ _ h, Below.heap_setCell _ _ _ _ h, Below.heap_setCell _ _ _ _ h, Below.heap_setCell _ _ _ _ h]
theorem stored8_4 {W : World} {b : Nat} {a0 a1 a2 a3 a4 a5 a6 a7 : Value} {T : TypeId} (h : W.heap[b]? = some (.cells #[a0, a1, a2, a3, a4, a5, a6, a7] T)) (v : Value) :
    (W.setCell ⟨b, 4, none⟩ v).heap[b]? = some (.cells #[a0, a1, a2, a3, v, a5, a6, a7] T) := by
  simp [World.setCell, Array.getElem?_modify, h]
theorem stored8_6 {W : World} {b : Nat} {a0 a1 a2 a3 a4 a5 a6 a7 : Value} {T : TypeId} (h : W.heap[b]? = some (.cells #[a0, a1, a2, a3, a4, a5, a6, a7] T)) (v : Value) :
    (W.setCell ⟨b, 6, none⟩ v).heap[b]? = some (.cells #[a0, a1, a2, a3, a4, a5, v, a7] T) := by
  simp [World.setCell, Array.getElem?_modify, h]
theorem stored8_7 {W : World} {b : Nat} {a0 a1 a2 a3 a4 a5 a6 a7 : Value} {T : TypeId} (h : W.heap[b]? = some (.cells #[a0, a1, a2, a3, a4, a5, a6, a7] T)) (v : Value) :
    (W.setCell ⟨b, 7, none⟩ v).heap[b]? = some (.cells #[a0, a1, a2, a3, a4, a5, a6, v] T) := by
  simp [World.setCell, Array.getElem?_modify, h]

set_option maxRecDepth 100000 in
set_option maxHeartbeats 2000000 in
theorem num_guess (l : List Item) (hs : nodesL l ≤ 4096) (h1 : atL l 0 ≠ 1) (h3 : atL l 0 ≠ 3) (v : Value) (w : World) (hI : Old w.heap.size w v l) : Calls Try.prog 27 #[v] w (RetGuess w (guessE l)) := by
  have hg : guessE l = ⟨atL l 0, zeroR, [], atL l 1⟩ := by unfold guessE; rw [if_neg h1, if_neg h3]
  rw [hg]
  obtain ⟨k, hk⟩ : ∃ k, atL l 0 = k := ⟨_, rfl⟩
  obtain ⟨n, hn⟩ : ∃ n, atL l 1 = n := ⟨_, rfl⟩
  obtain ⟨A, cap, rfl, hcap⟩ := hI.form
  obtain ⟨len, hlen⟩ : ∃ len, l.length = len := ⟨_, rfl⟩
  obtain ⟨b, hb⟩ : ∃ b, w.heap.size = b := ⟨_, rfl⟩
  have hl6 : l.length ≤ 1048576 := by have := @len_le_nodes l; omega
  rw [hlen] at hI
  have CT : Hid (∀ (W : World) (i : Nat), Below w.heap.size w W → i ≤ 1048576 → Calls Try.prog 46 #[.slice A len cap, .int .i64 (i : Nat)] W (fun e W' => e = .returned (.int .i64 (atL l i)) ∧ W = W')) := Lib.hid fun W i hW hi => at_pure l hl6 i hi _ W (hI.on hW)
  have hB2 := ((Below.refl w.heap.size w).alloc (Nat.le_refl _) Z8).alloc (by simp) (.cells #[.int .i64 k, .int .i64 0, .int .i64 0, .int .i64 0, .string ⟨#[]⟩, .int .u32 0, .slice none 0 0, .int .i64 0] 29)
  have hR2 : ((w.alloc Z8).alloc (.cells #[.int .i64 k, .int .i64 0, .int .i64 0, .int .i64 0, .string ⟨#[]⟩, .int .u32 0, .slice none 0 0, .int .i64 0] 29)).heap[b]? = some Z8 := by rw [← hb]; exact (Below.heap_alloc _ _ _ (by simp)).trans (heap_alloc_new w _)
  have hE2 := heap_alloc_new (w.alloc Z8) (.cells #[.int .i64 k, .int .i64 0, .int .i64 0, .int .i64 0, .string ⟨#[]⟩, .int .u32 0, .slice none 0 0, .int .i64 0] 29)
  rw [World.size_alloc, hb] at hE2
  have hsz : ((w.alloc Z8).alloc (.cells #[.int .i64 k, .int .i64 0, .int .i64 0, .int .i64 0, .string ⟨#[]⟩, .int .u32 0, .slice none 0 0, .int .i64 0] 29)).heap.size = b + 2 := by simp [hb]
  have c0 := CT.out (w.alloc Z8) 0 ((Below.refl _ _).alloc (Nat.le_refl _) _) (by decide)
  rw [hk] at c0 h1 h3 ⊢
  rw [hn]
  have C0 := Lib.hid (show Calls Try.prog 46 #[.slice A len cap, .int .i64 0] (w.alloc Z8) _ from c0)
  have b1 : (k == 1) = false := beq_eq_false_iff_ne.2 h1
  have b3 : (k == 3) = false := beq_eq_false_iff_ne.2 h3
  have HNN := Lib.hid hn
  clear hs hg hk hn h1 h3 c0 hI
  have HB2 := Lib.hid hB2
  have HR2 := Lib.hid hR2
  have HE2 := Lib.hid hE2
  have HBB := Lib.hid hb
  have HSZ := Lib.hid hsz
  clear hB2 hR2 hE2 hb hsz hcap hl6
  rw [hlen]
  clear hlen
  go_enter Try.func27, Try.ntmps27
  go_wp2_with fail
  refine C0.out.mono ?_
  rintro e w' ⟨rfl, rfl⟩
  clear C0
  go_wp2_with fail
  have hB2 := HB2.out
  have hR2 := HR2.out
  have hE2 := HE2.out
  have hsz := HSZ.out
  clear HB2 HR2 HE2 HSZ
  rw [HBB.out]
  generalize (w.alloc Z8).alloc (.cells #[.int .i64 k, .int .i64 0, .int .i64 0, .int .i64 0, .string ⟨#[]⟩, .int .u32 0, .slice none 0 0, .int .i64 0] 29) = w2 at hB2 hR2 hE2 hsz
  have c1 := CT.out w2 1 hB2 (by decide)
  rw [HNN.out] at c1
  have C1 := Lib.hid (show Calls Try.prog 46 #[.slice A len cap, .int .i64 1] w2 _ from c1)
  have hbw : b < w2.heap.size := by omega
  have hbw1 : b + 1 < w2.heap.size := by omega
  obtain ⟨⟨e0, e1, e2, e3, e4, e5, e6, e7⟩, f0, f1, f2, f3, f4, f5, f6, f7⟩ := box8 hE2
  have hE3 := stored8_7 hE2 (.int .i64 n)
  have hR3 := (Below.heap_setCell w2 ⟨b + 1, 7, none⟩ (.int .i64 n) b (by show b ≠ b + 1; omega)).trans hR2
  have hB3 := hB2.setCell (p := ⟨b + 1, 7, none⟩) (by show w.heap.size ≤ b + 1; rw [HBB.out]; omega) (.int .i64 n)
  have hs3 : (w2.setCell ⟨b + 1, 7, none⟩ (.int .i64 n)).heap.size = b + 2 := by simp [World.setCell, hsz]
  have HE3 := Lib.hid hE3
  have HR3 := Lib.hid hR3
  have HB3 := Lib.hid hB3
  have HS3 := Lib.hid hs3
  clear hE2 hR2 hB2 hE3 hR3 hB3 hs3 c1 hsz
  refine C1.out.mono ?_
  rintro e w' ⟨rfl, rfl⟩
  go_upto_region 19 with fail
  have hE3 := HE3.out
  have hR3 := HR3.out
  have hB3 := HB3.out
  have hs3 := HS3.out
  clear HE3 HR3 HB3 HS3 C1 e0 e1 e2 e3 e4 e5 e6 e7 f0 f1 f2 f3 f4 f5 f6 f7 hbw hbw1
  generalize w2.setCell ⟨b + 1, 7, none⟩ (.int .i64 n) = w3 at hE3 hR3 hB3 hs3 ⊢
  obtain ⟨⟨e0, e1, e2, e3, e4, e5, e6, e7⟩, _⟩ := box8 hE3
  obtain ⟨⟨p0, p1, p2, p3, p4, p5, p6, p7⟩, z0, z1, z2, z3, z4, z5, z6, z7⟩ := box8 hR3
  have HR3 := Lib.hid hR3
  have HB3 := Lib.hid hB3
  clear hE3 hR3 hB3
  go_wp2_with fail
  have hfin := stored8 HR3.out (.int .i64 k) (.int .i64 0) (.int .i64 0) (.int .i64 0) (.string ⟨#[]⟩) (.int .u32 0) (.slice none 0 0) (.int .i64 n)
  have hgr : w3.grownBy _ (some b) := set8_grown (W := w3) (b := b) (.int .i64 k) (.int .i64 0) (.int .i64 0) (.int .i64 0) (.string ⟨#[]⟩) (.int .u32 0) (.slice none 0 0) (.int .i64 n)
  clear p0 p1 p2 p3 p4 p5 p6 p7 z0 z1 z2 z3 z4 z5 z6 z7 e0 e1 e2 e3 e4 e5 e6 e7
  generalize ((((((((w3.setCell ⟨b, 0, none⟩ (.int .i64 k)).setCell ⟨b, 1, none⟩ (.int .i64 0)).setCell ⟨b, 2, none⟩ (.int .i64 0)).setCell ⟨b, 3, none⟩ (.int .i64 0)).setCell ⟨b, 4, none⟩ (.string ⟨#[]⟩)).setCell ⟨b, 5, none⟩ (.int .u32 0)).setCell ⟨b, 6, none⟩ (.slice none 0 0)).setCell ⟨b, 7, none⟩ (.int .i64 n)) = W at hfin hgr ⊢
  obtain ⟨⟨r0, r1, r2, r3, r4, r5, r6, r7⟩, _⟩ := box8 hfin
  exact bodyPost_ret (v := .agg #[.int .i64 k, .int .i64 0, .int .i64 0, .int .i64 0, .string ⟨#[]⟩, .int .u32 0, .slice none 0 0, .int .i64 n]) (by simp [results, Try.results27, go_sem, r0, r1, r2, r3, r4, r5, r6, r7]) rfl ⟨none, 0, 0, rfl, OpsAt.nil _ _, HB3.out.grown hgr HB3.out.size (fun q hq => by simp only [Option.some.injEq] at hq; have := HBB.out; omega)⟩

set_option maxRecDepth 100000 in
set_option maxHeartbeats 4000000 in
theorem rec_guess (l : List Item) (hs : nodesL l ≤ 4096) (h1 : atL l 0 = 1) (v : Value) (w : World) (hI : Old w.heap.size w v l) : Calls Try.prog 27 #[v] w (RetGuess w (guessE l)) := by
  have hg : guessE l = ⟨1, ⟨atL l 1, atL l 2, atL l 3, gKey l, u32N (atL l 5)⟩, [], 0⟩ := by unfold guessE; rw [if_pos h1]
  rw [hg]
  obtain ⟨x1, hx1⟩ : ∃ n, atL l 1 = n := ⟨_, rfl⟩
  obtain ⟨x2, hx2⟩ : ∃ n, atL l 2 = n := ⟨_, rfl⟩
  obtain ⟨x3, hx3⟩ : ∃ n, atL l 3 = n := ⟨_, rfl⟩
  obtain ⟨x5, hx5⟩ : ∃ n, atL l 5 = n := ⟨_, rfl⟩
  obtain ⟨key, hkey⟩ : ∃ n, gKey l = n := ⟨_, rfl⟩
  obtain ⟨u5, hu5⟩ : ∃ n, u32N x5 = n := ⟨_, rfl⟩
  have hu5I : IntKind.u32.wrap x5 = ((u5 : Nat) : Int) := by rw [← hu5]; unfold u32N; rw [IntKind.wrap_u32']; omega
  obtain ⟨A, cap, rfl, hcap⟩ := hI.form
  obtain ⟨len, hlen⟩ : ∃ len, l.length = len := ⟨_, rfl⟩
  obtain ⟨b, hb⟩ : ∃ b, w.heap.size = b := ⟨_, rfl⟩
  have hl6 : l.length ≤ 1048576 := by have := @len_le_nodes l; omega
  rw [hlen] at hI
  have CT : Hid (∀ (W : World) (i : Nat), Below w.heap.size w W → i ≤ 1048576 → Calls Try.prog 46 #[.slice A len cap, .int .i64 (i : Nat)] W (fun e W' => e = .returned (.int .i64 (atL l i)) ∧ W = W')) := Lib.hid fun W i hW hi => at_pure l hl6 i hi _ W (hI.on hW)
  have hB2 := ((Below.refl w.heap.size w).alloc (Nat.le_refl _) Z8).alloc (by simp) (.cells #[.int .i64 1, .int .i64 0, .int .i64 0, .int .i64 0, .string ⟨#[]⟩, .int .u32 0, .slice none 0 0, .int .i64 0] 29)
  have hR2 : ((w.alloc Z8).alloc (.cells #[.int .i64 1, .int .i64 0, .int .i64 0, .int .i64 0, .string ⟨#[]⟩, .int .u32 0, .slice none 0 0, .int .i64 0] 29)).heap[b]? = some Z8 := by rw [← hb]; exact (Below.heap_alloc _ _ _ (by simp)).trans (heap_alloc_new w _)
  have hE2 := heap_alloc_new (w.alloc Z8) (.cells #[.int .i64 1, .int .i64 0, .int .i64 0, .int .i64 0, .string ⟨#[]⟩, .int .u32 0, .slice none 0 0, .int .i64 0] 29)
  rw [World.size_alloc, hb] at hE2
  have hsz : ((w.alloc Z8).alloc (.cells #[.int .i64 1, .int .i64 0, .int .i64 0, .int .i64 0, .string ⟨#[]⟩, .int .u32 0, .slice none 0 0, .int .i64 0] 29)).heap.size = b + 2 := by simp [hb]
  have c0 := CT.out (w.alloc Z8) 0 ((Below.refl _ _).alloc (Nat.le_refl _) _) (by decide)
  rw [h1] at c0
  rw [hx1, hx2, hx3, hx5, hu5, hkey]
  have C0 := Lib.hid (show Calls Try.prog 46 #[.slice A len cap, .int .i64 0] (w.alloc Z8) _ from c0)
  have HX1 := Lib.hid hx1
  have HX2 := Lib.hid hx2
  have HX3 := Lib.hid hx3
  have HX5 := Lib.hid hx5
  have HKEY := Lib.hid hkey
  have HU5 := Lib.hid hu5I
  have HI := Lib.hid hI
  have HLEN := Lib.hid hlen
  clear hs hg h1 c0 hI hx1 hx2 hx3 hx5 hkey hu5 hu5I
  have HB2 := Lib.hid hB2
  have HR2 := Lib.hid hR2
  have HE2 := Lib.hid hE2
  have HBB := Lib.hid hb
  have HSZ := Lib.hid hsz
  clear hB2 hR2 hE2 hb hsz hcap hl6
  rw [hlen]
  clear hlen
  go_enter Try.func27, Try.ntmps27
  go_wp2_with fail
  refine C0.out.mono ?_
  rintro e w' ⟨rfl, rfl⟩
  clear C0
  go_upto_region 5 with fail
  have hB2 := HB2.out
  have hR2 := HR2.out
  have hE2 := HE2.out
  have hsz := HSZ.out
  clear HB2 HR2 HE2 HSZ
  rw [HBB.out]
  generalize (w.alloc Z8).alloc (.cells #[.int .i64 1, .int .i64 0, .int .i64 0, .int .i64 0, .string ⟨#[]⟩, .int .u32 0, .slice none 0 0, .int .i64 0] 29) = w2 at hB2 hR2 hE2 hsz
  have c1 := CT.out w2 1 hB2 (by decide)
  rw [HX1.out] at c1
  have C1 := Lib.hid (show Calls Try.prog 46 #[.slice A len cap, .int .i64 1] w2 _ from c1)
  have c2 := CT.out w2 2 hB2 (by decide)
  rw [HX2.out] at c2
  have C2 := Lib.hid (show Calls Try.prog 46 #[.slice A len cap, .int .i64 2] w2 _ from c2)
  have c3 := CT.out w2 3 hB2 (by decide)
  rw [HX3.out] at c3
  have C3 := Lib.hid (show Calls Try.prog 46 #[.slice A len cap, .int .i64 3] w2 _ from c3)
  have c5 := CT.out w2 5 hB2 (by decide)
  rw [HX5.out] at c5
  have C5 := Lib.hid (show Calls Try.prog 46 #[.slice A len cap, .int .i64 5] w2 _ from c5)
  have hbw : b < w2.heap.size := by omega
  have hbw1 : b + 1 < w2.heap.size := by omega
  obtain ⟨⟨e0, e1, e2, e3, e4, e5, e6, e7⟩, f0, f1, f2, f3, f4, f5, f6, f7⟩ := box8 hE2
  have HE2 := Lib.hid hE2
  have HR2 := Lib.hid hR2
  have HB2 := Lib.hid hB2
  clear hE2 hR2 hB2 c1 c2 c3 c5
  go_wp2_with fail
  refine C1.out.mono ?_
  rintro e w' ⟨rfl, rfl⟩
  go_wp2_with fail
  refine C2.out.mono ?_
  rintro e w' ⟨rfl, rfl⟩
  go_wp2_with fail
  refine C3.out.mono ?_
  rintro e w' ⟨rfl, rfl⟩
  go_wp2_with fail
  refine C5.out.mono ?_
  rintro e w' ⟨rfl, rfl⟩
  have hu := HU5.out
  have hE3 := stored8_15 HE2.out (.int .i64 x1) (.int .i64 x2) (.int .i64 x3) (.string ⟨#[]⟩) (.int .u32 (u5 : Nat))
  have hR3 := (set5_other (W := w2) (b := b + 1) (j := b) (by omega) (.int .i64 x1) (.int .i64 x2) (.int .i64 x3) (.string ⟨#[]⟩) (.int .u32 (u5 : Nat))).trans HR2.out
  have hb1 : w.heap.size ≤ b + 1 := by have := HBB.out; omega
  have hB3 := ((((HB2.out.setCell (p := ⟨b + 1, 1, none⟩) hb1 (.int .i64 x1)).setCell (p := ⟨b + 1, 2, none⟩) hb1 (.int .i64 x2)).setCell (p := ⟨b + 1, 3, none⟩) hb1 (.int .i64 x3)).setCell (p := ⟨b + 1, 4, none⟩) hb1 (.string ⟨#[]⟩)).setCell (p := ⟨b + 1, 5, none⟩) hb1 (.int .u32 (u5 : Nat))
  have hs3 : (((((w2.setCell ⟨b + 1, 1, none⟩ (.int .i64 x1)).setCell ⟨b + 1, 2, none⟩ (.int .i64 x2)).setCell ⟨b + 1, 3, none⟩ (.int .i64 x3)).setCell ⟨b + 1, 4, none⟩ (.string ⟨#[]⟩)).setCell ⟨b + 1, 5, none⟩ (.int .u32 (u5 : Nat))).heap.size = b + 2 := by simp [World.setCell, hsz]
  have HE3 := Lib.hid hE3
  have HR3 := Lib.hid hR3
  have HB3 := Lib.hid hB3
  have HS3 := Lib.hid hs3
  clear hE3 hR3 hB3 hs3 hsz
  go_upto_region 6 with fail
  have hE3 := HE3.out
  have hR3 := HR3.out
  have hB3 := HB3.out
  have hs3 := HS3.out
  clear HE3 HR3 HB3 HS3 C1 C2 C3 C5 HE2 HR2 HB2 e0 e1 e2 e3 e4 e5 e6 e7 f0 f1 f2 f3 f4 f5 f6 f7 hbw hbw1 hu
  generalize (((((w2.setCell ⟨b + 1, 1, none⟩ (.int .i64 x1)).setCell ⟨b + 1, 2, none⟩ (.int .i64 x2)).setCell ⟨b + 1, 3, none⟩ (.int .i64 x3)).setCell ⟨b + 1, 4, none⟩ (.string ⟨#[]⟩)).setCell ⟨b + 1, 5, none⟩ (.int .u32 (u5 : Nat))) = w3 at hE3 hR3 hB3 hs3 ⊢
  by_cases hlen4 : 4 < len
  · obtain ⟨y, hy⟩ : ∃ y, l[4]? = some y := ⟨_, List.getElem?_eq_getElem (by rw [HLEN.out]; exact hlen4)⟩
    obtain rfl : y.s = key := by rw [← HKEY.out]; unfold gKey; rw [hy]
    have hI3 := Items.low hB3 HI.out
    obtain ⟨jb, jo, rfl, hjb, hcells⟩ := hI3.at (by omega)
    obtain ⟨uy, ⟨_, _, y2, _⟩, _⟩ := hcells 4 y hy
    have y2a : w3.cell? ⟨jb, jo + 18, none⟩ = some (.string y.s) := y2
    have y2b : w3.cell? ⟨jb, jo + 16 + 2, none⟩ = some (.string y.s) := y2
    obtain ⟨⟨e0, e1, e2, e3, e4, e5, e6, e7⟩, f0, f1, f2, f3, f4, f5, f6, f7⟩ := box8 hE3
    have hbw1 : b + 1 < w3.heap.size := by omega
    have hE4 := stored8_4 hE3 (.string y.s)
    have hR4 := (Below.heap_setCell w3 ⟨b + 1, 4, none⟩ (.string y.s) b (by show b ≠ b + 1; omega)).trans hR3
    have hB4 := hB3.setCell (p := ⟨b + 1, 4, none⟩) hb1 (.string y.s)
    have hs4 : (w3.setCell ⟨b + 1, 4, none⟩ (.string y.s)).heap.size = b + 2 := by simp [World.setCell, hs3]
    have HE4 := Lib.hid hE4
    have HR4 := Lib.hid hR4
    have HB4 := Lib.hid hB4
    have HS4 := Lib.hid hs4
    clear hE4 hR4 hB4 hs4 hE3 hR3 hB3 hs3 hy hcells y2 hI3
    go_upto_region 19 with fail
    have hE4 := HE4.out
    have hR4 := HR4.out
    have hB4 := HB4.out
    have hs4 := HS4.out
    clear HE4 HR4 HB4 HS4 e0 e1 e2 e3 e4 e5 e6 e7 f0 f1 f2 f3 f4 f5 f6 f7 hbw1 y2a y2b
    generalize w3.setCell ⟨b + 1, 4, none⟩ (.string y.s) = w4 at hE4 hR4 hB4 hs4 ⊢
    obtain ⟨⟨e0, e1, e2, e3, e4, e5, e6, e7⟩, _⟩ := box8 hE4
    obtain ⟨⟨p0, p1, p2, p3, p4, p5, p6, p7⟩, z0, z1, z2, z3, z4, z5, z6, z7⟩ := box8 hR4
    have hbw : b < w4.heap.size := by omega
    have HR4 := Lib.hid hR4
    have HB4 := Lib.hid hB4
    clear hE4 hR4 hB4
    go_wp2_with fail
    have hfin := stored8 HR4.out (.int .i64 1) (.int .i64 x1) (.int .i64 x2) (.int .i64 x3) (.string y.s) (.int .u32 (u5 : Nat)) (.slice none 0 0) (.int .i64 0)
    have hgr : w4.grownBy _ (some b) := set8_grown (W := w4) (b := b) (.int .i64 1) (.int .i64 x1) (.int .i64 x2) (.int .i64 x3) (.string y.s) (.int .u32 (u5 : Nat)) (.slice none 0 0) (.int .i64 0)
    clear p0 p1 p2 p3 p4 p5 p6 p7 z0 z1 z2 z3 z4 z5 z6 z7 e0 e1 e2 e3 e4 e5 e6 e7
    generalize ((((((((w4.setCell ⟨b, 0, none⟩ (.int .i64 1)).setCell ⟨b, 1, none⟩ (.int .i64 x1)).setCell ⟨b, 2, none⟩ (.int .i64 x2)).setCell ⟨b, 3, none⟩ (.int .i64 x3)).setCell ⟨b, 4, none⟩ (.string y.s)).setCell ⟨b, 5, none⟩ (.int .u32 (u5 : Nat))).setCell ⟨b, 6, none⟩ (.slice none 0 0)).setCell ⟨b, 7, none⟩ (.int .i64 0)) = W at hfin hgr ⊢
    obtain ⟨⟨r0, r1, r2, r3, r4, r5, r6, r7⟩, _⟩ := box8 hfin
    exact bodyPost_ret (v := .agg #[.int .i64 1, .int .i64 x1, .int .i64 x2, .int .i64 x3, .string y.s, .int .u32 (u5 : Nat), .slice none 0 0, .int .i64 0]) (by simp [results, Try.results27, go_sem, r0, r1, r2, r3, r4, r5, r6, r7]) rfl ⟨none, 0, 0, rfl, OpsAt.nil _ _, HB4.out.grown hgr HB4.out.size (fun q hq => by simp only [Option.some.injEq] at hq; have := HBB.out; omega)⟩

  · obtain rfl : noT = key := by rw [← HKEY.out]; unfold gKey; rw [List.getElem?_eq_none (by rw [HLEN.out]; omega)]
    show Code.wp _ _ (Exit.then _ (Exit.inBlock 0 (Exit.then _ (bodyPost Try.prog Try.f27 (RetGuess w ⟨1, ⟨x1, x2, x3, ⟨#[]⟩, u5⟩, [], 0⟩))))) _ _
    obtain ⟨⟨e0, e1, e2, e3, e4, e5, e6, e7⟩, _⟩ := box8 hE3
    obtain ⟨⟨p0, p1, p2, p3, p4, p5, p6, p7⟩, z0, z1, z2, z3, z4, z5, z6, z7⟩ := box8 hR3
    have hbw : b < w3.heap.size := by omega
    have HR4 := Lib.hid hR3
    have HB4 := Lib.hid hB3
    clear hE3 hR3 hB3
    go_wp2_with fail
    have hfin := stored8 HR4.out (.int .i64 1) (.int .i64 x1) (.int .i64 x2) (.int .i64 x3) (.string ⟨#[]⟩) (.int .u32 (u5 : Nat)) (.slice none 0 0) (.int .i64 0)
    have hgr : w3.grownBy _ (some b) := set8_grown (W := w3) (b := b) (.int .i64 1) (.int .i64 x1) (.int .i64 x2) (.int .i64 x3) (.string ⟨#[]⟩) (.int .u32 (u5 : Nat)) (.slice none 0 0) (.int .i64 0)
    clear p0 p1 p2 p3 p4 p5 p6 p7 z0 z1 z2 z3 z4 z5 z6 z7 e0 e1 e2 e3 e4 e5 e6 e7
    generalize ((((((((w3.setCell ⟨b, 0, none⟩ (.int .i64 1)).setCell ⟨b, 1, none⟩ (.int .i64 x1)).setCell ⟨b, 2, none⟩ (.int .i64 x2)).setCell ⟨b, 3, none⟩ (.int .i64 x3)).setCell ⟨b, 4, none⟩ (.string ⟨#[]⟩)).setCell ⟨b, 5, none⟩ (.int .u32 (u5 : Nat))).setCell ⟨b, 6, none⟩ (.slice none 0 0)).setCell ⟨b, 7, none⟩ (.int .i64 0)) = W at hfin hgr ⊢
    obtain ⟨⟨r0, r1, r2, r3, r4, r5, r6, r7⟩, _⟩ := box8 hfin
    exact bodyPost_ret (v := .agg #[.int .i64 1, .int .i64 x1, .int .i64 x2, .int .i64 x3, .string ⟨#[]⟩, .int .u32 (u5 : Nat), .slice none 0 0, .int .i64 0]) (by simp [results, Try.results27, go_sem, r0, r1, r2, r3, r4, r5, r6, r7]) rfl ⟨none, 0, 0, rfl, OpsAt.nil _ _, HB4.out.grown hgr HB4.out.size (fun q hq => by simp only [Option.some.injEq] at hq; have := HBB.out; omega)⟩


end Go.Proofs.Ytffehnojcajhiaa.Wire.Entry

namespace Go.Proofs.Ytffehnojcajhiaa.Wire.Entry
open Go Go.RowKit Go.Proofs.Ytffehnojcajhiaa.Law

/-- What a round of the outer loop finds. -/
structure GuS (w W : World) (b : Nat) (vg : Value) (ops : List Opr) : Prop where
  res : W.heap[b]? = some Z8
  box : W.heap[b + 1]? = some (.cells #[.int .i64 3, .int .i64 0, .int .i64 0, .int .i64 0, .string ⟨#[]⟩, .int .u32 0, vg, .int .i64 0] 29)
  grow : GrowO (b + 2) W vg ops
  low : Below b w W
  size : b + 2 ≤ W.heap.size
/-- .. of the inner loop. -/
structure InG (wo W : World) (p : Nat) (z0 z2 : Int) (u3 : Nat) (z4 z5 : Int) (u6 : Nat) (v : Value) (l : List Int) : Prop where
  box : W.heap[p]? = some (.cells #[.int .i64 z0, v, .int .i64 z2, .int .u32 (u3 : Nat), .int .i64 z4, .int .i64 z5, .int .u32 (u6 : Nat)] 47)
  own : OwnI W (p + 1) v l
  low : Below p wo W
  size : p + 1 ≤ W.heap.size
theorem stored7_1 {W : World} {b : Nat} {a0 a1 a2 a3 a4 a5 a6 : Value} {T : TypeId} (h : W.heap[b]? = some (.cells #[a0, a1, a2, a3, a4, a5, a6] T)) (v : Value) :
    (W.setCell ⟨b, 1, none⟩ v).heap[b]? = some (.cells #[a0, v, a2, a3, a4, a5, a6] T) := by
  simp [World.setCell, Array.getElem?_modify, h]
theorem OwnI.drewn {W : World} {base : Nat} {v : Value} {l : List Int} (h : OwnI W base v l) : OwnI W.drew base v l := h.keep fun _ _ => rfl
theorem gOps_length {l : List Item} {y : Item} (h : l[1]? = some y) : (gOps l).length = y.kids.length := by unfold gOps; rw [h]; simp
theorem gOps_none {l : List Item} (h : l.length ≤ 1) : gOps l = [] := by unfold gOps; rw [List.getElem?_eq_none h]
theorem gOps_get {l : List Item} {y x : Item} (h : l[1]? = some y) {k : Nat} (hx : y.kids[k]? = some x) : (gOps l)[k]? = some (gOp x.kids) := by unfold gOps; rw [h]; simp [hx]
theorem gIns_length {l : List Item} {y : Item} (h : l[1]? = some y) : (gIns l).length = y.kids.length := by unfold gIns; rw [h]; simp
theorem gIns_none {l : List Item} (h : l.length ≤ 1) : gIns l = [] := by unfold gIns; rw [List.getElem?_eq_none h]
theorem gIns_get {l : List Item} {y x : Item} (h : l[1]? = some y) {k : Nat} (hx : y.kids[k]? = some x) : (gIns l)[k]? = some x.n := by unfold gIns; rw [h]; simp [hx]

theorem at_pure' (l : List Item) (hl : l.length ≤ 1048576) (i : Nat) (hi : i ≤ 1048576) (A : Option Addr) {c : Nat} (len : Nat) (_hlen : l.length = len) (w : World) (hI : Old w.heap.size w (.slice A len c) l) : Calls Try.prog 46 #[.slice A len c, .int .i64 (i : Nat)] w (fun e W => e = .returned (.int .i64 (atL l i)) ∧ w = W) := at_pure l hl i hi _ w hI

set_option maxRecDepth 100000 in
set_option maxHeartbeats 4000000 in
theorem deploy_guess (l : List Item) (hs : nodesL l ≤ 4096) (h3 : atL l 0 = 3) (v : Value) (w : World) (hI : Old w.heap.size w v l) : Calls Try.prog 27 #[v] w (RetGuess w (guessE l)) := by
  have hg : guessE l = ⟨3, zeroR, gOps l, 0⟩ := by unfold guessE; rw [if_neg (by rw [h3]; decide), if_pos h3]
  rw [hg]
  obtain ⟨A, cap, rfl, hcap⟩ := hI.form
  obtain ⟨len, hlen⟩ : ∃ len, l.length = len := ⟨_, rfl⟩
  obtain ⟨b, hb⟩ : ∃ b, w.heap.size = b := ⟨_, rfl⟩
  have hl6 : l.length ≤ 1048576 := by have := @len_le_nodes l; omega
  rw [hlen] at hI
  have CT : Hid (∀ (W : World) (i : Nat), Below w.heap.size w W → i ≤ 1048576 → Calls Try.prog 46 #[.slice A len cap, .int .i64 (i : Nat)] W (fun e W' => e = .returned (.int .i64 (atL l i)) ∧ W = W')) := Lib.hid fun W i hW hi => at_pure l hl6 i hi _ W (hI.on hW)
  have hB2 := ((Below.refl w.heap.size w).alloc (Nat.le_refl _) Z8).alloc (by simp) (.cells #[.int .i64 3, .int .i64 0, .int .i64 0, .int .i64 0, .string ⟨#[]⟩, .int .u32 0, .slice none 0 0, .int .i64 0] 29)
  have hR2 : ((w.alloc Z8).alloc (.cells #[.int .i64 3, .int .i64 0, .int .i64 0, .int .i64 0, .string ⟨#[]⟩, .int .u32 0, .slice none 0 0, .int .i64 0] 29)).heap[b]? = some Z8 := by rw [← hb]; exact (Below.heap_alloc _ _ _ (by simp)).trans (heap_alloc_new w _)
  have hE2 := heap_alloc_new (w.alloc Z8) (.cells #[.int .i64 3, .int .i64 0, .int .i64 0, .int .i64 0, .string ⟨#[]⟩, .int .u32 0, .slice none 0 0, .int .i64 0] 29)
  rw [World.size_alloc, hb] at hE2
  have hsz : ((w.alloc Z8).alloc (.cells #[.int .i64 3, .int .i64 0, .int .i64 0, .int .i64 0, .string ⟨#[]⟩, .int .u32 0, .slice none 0 0, .int .i64 0] 29)).heap.size = b + 2 := by simp [hb]
  have c0 := CT.out (w.alloc Z8) 0 ((Below.refl _ _).alloc (Nat.le_refl _) _) (by decide)
  rw [h3] at c0
  have C0 := Lib.hid (show Calls Try.prog 46 #[.slice A len cap, .int .i64 0] (w.alloc Z8) _ from c0)
  have HI := Lib.hid hI
  have HLEN := Lib.hid hlen
  have HNS := Lib.hid hs
  obtain ⟨G, hG⟩ : ∃ G, (gOps l).length = G := ⟨_, rfl⟩
  have HGL := Lib.hid hG
  have hGs : G ≤ 4096 := by
    rw [← hG]; unfold gOps
    split
    · rename_i y hy
      have q1 := nodes_mem (List.mem_of_getElem? hy)
      have q2 := nodes_kids y
      have q3 := @len_le_nodes y.kids
      rw [List.length_map]; omega
    · simp
  have HGG := Lib.hid hGs
  clear hs hg h3 c0 hI hG CT
  have HB2 := Lib.hid hB2
  have HR2 := Lib.hid hR2
  have HE2 := Lib.hid hE2
  have HBB := Lib.hid hb
  have HSZ := Lib.hid hsz
  clear hB2 hR2 hE2 hb hsz hcap hl6
  rw [hlen]
  clear hlen
  go_enter Try.func27, Try.ntmps27
  go_wp2_with fail
  refine C0.out.mono ?_
  rintro e w' ⟨rfl, rfl⟩
  clear C0
  go_wp2_with fail
  have hB2 := HB2.out
  have hR2 := HR2.out
  have hE2 := HE2.out
  have hsz := HSZ.out
  clear HB2 HR2 HE2 HSZ
  rw [HBB.out]
  generalize (w.alloc Z8).alloc (.cells #[.int .i64 3, .int .i64 0, .int .i64 0, .int .i64 0, .string ⟨#[]⟩, .int .u32 0, .slice none 0 0, .int .i64 0] 29) = w2 at hB2 hR2 hE2 hsz
  have HB2 := Lib.hid hB2
  have HR2 := Lib.hid hR2
  have HE2 := Lib.hid hE2
  have HS2 := Lib.hid hsz
  clear hB2 hR2 hE2 hsz
  go_loopw [4] (fun s W => ∃ (k : Nat) (A' : Option Addr) (n' c' : Nat), s = .int .i64 k ∧ k ≤ G ∧ GuS w W b (.slice A' n' c') ((gOps l).take k)) (fun s _ => G - (intOf s).toNat)
  case atStart => exact ⟨0, none, 0, 0, rfl, Nat.zero_le _, HR2.out, HE2.out, GrowO.nil _ _, HBB.out ▸ HB2.out, Nat.le_of_eq HS2.out.symm⟩
  case round =>
    obtain ⟨k, Ag, ng, cg, rfl, hk, hst⟩ := hrel
    have HGo := Lib.hid hst
    have hIw : Old w.heap.size wr (.slice A len cap) l := Items.low (by rw [HBB.out]; exact hst.low) HI.out
    clear hst
    by_cases hl1 : 1 < len
    · obtain ⟨y1, hy1⟩ : ∃ y, l[1]? = some y := ⟨_, List.getElem?_eq_getElem (by rw [HLEN.out]; exact hl1)⟩
      obtain ⟨jb, jo, rfl, hjb, hcells⟩ := hIw.at (by omega)
      obtain ⟨u1, ⟨_, _, _, y3⟩, hi1⟩ := hcells 1 y1 hy1
      obtain ⟨A1, c1, rfl, _⟩ := hi1.form
      have hG1 : y1.kids.length = G := by rw [← HGL.out, gOps_length hy1]
      rw [hG1] at y3 hi1
      have y3a : wr.cell? ⟨jb, jo + 7, none⟩ = some (.slice A1 G c1) := y3
      have y3b : wr.cell? ⟨jb, jo + 4 + 3, none⟩ = some (.slice A1 G c1) := y3
      have HY1 := Lib.hid hy1
      have HG1 := Lib.hid hG1
      clear hcells hy1 hG1 y3
      by_cases hlt : k < G
      · obtain ⟨x, hx⟩ : ∃ x, y1.kids[k]? = some x := ⟨_, List.getElem?_eq_getElem (by rw [HG1.out]; exact hlt)⟩
        have HLT := Lib.hid hlt
        obtain ⟨jb1, jo1, rfl, hjb1, hcells1⟩ := hi1.at (by omega)
        obtain ⟨ux, ⟨_, _, _, x3⟩, hix⟩ := hcells1 k x hx
        obtain ⟨Ax, cx, rfl, _⟩ := hix.form
        obtain ⟨lx, hlx⟩ : ∃ lx, x.kids.length = lx := ⟨_, rfl⟩
        rw [hlx] at x3 hix
        have hxs : x.kids.length ≤ 4096 ∧ nodesL x.kids ≤ 4096 := by
          have q1 := nodes_mem (List.mem_of_getElem? HY1.out)
          have q2 := nodes_kids y1
          have q3 := kids_few (l := y1.kids) (x := x) (by have := HNS.out; omega) (List.mem_of_getElem? hx)
          exact q3
        have CX : Hid (∀ (i : Nat), i ≤ 1048576 → Calls Try.prog 46 #[.slice Ax lx cx, .int .i64 (i : Nat)] wr (fun e W' => e = .returned (.int .i64 (atL x.kids i)) ∧ wr = W')) := Lib.hid fun i hi => at_pure' x.kids (by omega) i hi _ lx hlx wr (hix.mono (fun _ h => by have := HGo.out.low.size; have := HBB.out; have := HGo.out.size; omega))
        obtain ⟨z0, hz0⟩ : ∃ n, atL x.kids 0 = n := ⟨_, rfl⟩
        obtain ⟨z2, hz2⟩ : ∃ n, atL x.kids 2 = n := ⟨_, rfl⟩
        obtain ⟨z3, hz3⟩ : ∃ n, atL x.kids 3 = n := ⟨_, rfl⟩
        obtain ⟨z4, hz4⟩ : ∃ n, atL x.kids 4 = n := ⟨_, rfl⟩
        obtain ⟨z5, hz5⟩ : ∃ n, atL x.kids 5 = n := ⟨_, rfl⟩
        obtain ⟨z6, hz6⟩ : ∃ n, atL x.kids 6 = n := ⟨_, rfl⟩
        obtain ⟨u3, hu3⟩ : ∃ n, u32N z3 = n := ⟨_, rfl⟩
        obtain ⟨u6, hu6⟩ : ∃ n, u32N z6 = n := ⟨_, rfl⟩
        have hu3I : IntKind.u32.wrap z3 = ((u3 : Nat) : Int) := by rw [← hu3]; unfold u32N; rw [IntKind.wrap_u32']; omega
        have hu6I : IntKind.u32.wrap z6 = ((u6 : Nat) : Int) := by rw [← hu6]; unfold u32N; rw [IntKind.wrap_u32']; omega
        have D0 := CX.out 0 (by decide)
        have D2 := CX.out 2 (by decide)
        have D3 := CX.out 3 (by decide)
        have D4 := CX.out 4 (by decide)
        have D5 := CX.out 5 (by decide)
        have D6 := CX.out 6 (by decide)
        rw [hz0] at D0
        rw [hz2] at D2
        rw [hz3] at D3
        rw [hz4] at D4
        rw [hz5] at D5
        rw [hz6] at D6
        have E0 := Lib.hid (show Calls Try.prog 46 #[.slice Ax lx cx, .int .i64 0] wr _ from D0)
        have E2 := Lib.hid (show Calls Try.prog 46 #[.slice Ax lx cx, .int .i64 2] wr _ from D2)
        have E3 := Lib.hid (show Calls Try.prog 46 #[.slice Ax lx cx, .int .i64 3] wr _ from D3)
        have E4 := Lib.hid (show Calls Try.prog 46 #[.slice Ax lx cx, .int .i64 4] wr _ from D4)
        have E5 := Lib.hid (show Calls Try.prog 46 #[.slice Ax lx cx, .int .i64 5] wr _ from D5)
        have E6 := Lib.hid (show Calls Try.prog 46 #[.slice Ax lx cx, .int .i64 6] wr _ from D6)
        have HZ0 := Lib.hid (show (gOp x.kids).kind = z0 from hz0)
        have HZ2 := Lib.hid (show (gOp x.kids).arg = z2 from hz2)
        have HZ3 := Lib.hid (show (gOp x.kids).num = u3 by show u32N (atL x.kids 3) = u3; rw [hz3, hu3])
        have HZ4 := Lib.hid (show (gOp x.kids).rounds = z4 from hz4)
        have HZ5 := Lib.hid (show (gOp x.kids).test = z5 from hz5)
        have HZ6 := Lib.hid (show (gOp x.kids).lim = u6 by show u32N (atL x.kids 6) = u6; rw [hz6, hu6])
        have HU3 := Lib.hid hu3I
        have HU6 := Lib.hid hu6I
        have HX := Lib.hid hx
        have HLX := Lib.hid hlx
        have HXS := Lib.hid hxs
        have HIX := Lib.hid hix
        obtain ⟨M, hM⟩ : ∃ M, (gIns x.kids).length = M := ⟨_, rfl⟩
        have HMM := Lib.hid hM
        have hMs : M ≤ 4096 := by
          rw [← hM]; unfold gIns
          split
          · rename_i y hy
            have q1 := nodes_mem (List.mem_of_getElem? hy)
            have q2 := nodes_kids y
            have q3 := @len_le_nodes y.kids
            rw [List.length_map]; omega
          · simp
        obtain ⟨p, hp⟩ : ∃ p, wr.heap.size = p := ⟨_, rfl⟩
        have HPP := Lib.hid hp
        have hO5 := heap_alloc_new wr (.cells #[.int .i64 z0, .slice none 0 0, .int .i64 z2, .int .u32 (u3 : Nat), .int .i64 z4, .int .i64 z5, .int .u32 (u6 : Nat)] 47)
        rw [hp] at hO5
        have hB5 : Below p wr (wr.alloc (.cells #[.int .i64 z0, .slice none 0 0, .int .i64 z2, .int .u32 (u3 : Nat), .int .i64 z4, .int .i64 z5, .int .u32 (u6 : Nat)] 47)) := (Below.refl p wr).alloc (Nat.le_of_eq hp.symm) _
        have hs5 : (wr.alloc (.cells #[.int .i64 z0, .slice none 0 0, .int .i64 z2, .int .u32 (u3 : Nat), .int .i64 z4, .int .i64 z5, .int .u32 (u6 : Nat)] 47)).heap.size = p + 1 := by simp [hp]
        have HO5 := Lib.hid hO5
        have HB5 := Lib.hid hB5
        have HS5 := Lib.hid hs5
        clear hcells1 hx hix hlx hxs CX hz0 hz2 hz3 hz4 hz5 hz6 hu3 hu6 hu3I hu6I D0 D2 D3 D4 D5 D6 hM hp hO5 hB5 hs5 hi1 hIw
        have hu3I := HU3.out
        have hu6I := HU6.out
        go_wp2_with fail
        refine E0.out.mono ?_
        rintro e w' ⟨rfl, rfl⟩
        go_wp2_with fail
        refine E2.out.mono ?_
        rintro e w' ⟨rfl, rfl⟩
        go_wp2_with fail
        refine E3.out.mono ?_
        rintro e w' ⟨rfl, rfl⟩
        go_wp2_with fail
        refine E4.out.mono ?_
        rintro e w' ⟨rfl, rfl⟩
        go_wp2_with fail
        refine E5.out.mono ?_
        rintro e w' ⟨rfl, rfl⟩
        go_wp2_with fail
        refine E6.out.mono ?_
        rintro e w' ⟨rfl, rfl⟩
        go_wp2_with fail
        have hO5 := HO5.out
        have hB5 := HB5.out
        have hs5 := HS5.out
        clear hu3I hu6I HO5 HB5 HS5 E0 E2 E3 E4 E5 E6 x3 y3a y3b
        generalize wr.alloc (.cells #[.int .i64 z0, .slice none 0 0, .int .i64 z2, .int .u32 (u3 : Nat), .int .i64 z4, .int .i64 z5, .int .u32 (u6 : Nat)] 47) = w5 at hO5 hB5 hs5 ⊢
        rw [HPP.out]
        obtain ⟨wo, hwo⟩ : ∃ wo, wo = wr := ⟨_, rfl⟩
        rw [← hwo] at HGo HPP HIX hB5
        clear hwo
        have HO5 := Lib.hid hO5
        have HB5 := Lib.hid hB5
        have HS5 := Lib.hid hs5
        clear hO5 hB5 hs5
        go_loopw [7] (fun s W => ∃ (m : Nat) (A' : Option Addr) (n' c' : Nat), s = .int .i64 m ∧ m ≤ M ∧ InG wo W p z0 z2 u3 z4 z5 u6 (.slice A' n' c') ((gIns x.kids).take m)) (fun s _ => M - (intOf s).toNat)
        case atStart => exact ⟨0, none, 0, 0, rfl, Nat.zero_le _, HO5.out, OwnI.nil _ _, HB5.out, Nat.le_of_eq HS5.out.symm⟩
        case round =>
          obtain ⟨m, Ai, li, ci, rfl, hm, hin⟩ := hrel
          have HIN := Lib.hid hin
          have hIx : Old w.heap.size wr (.slice Ax lx cx) x.kids := Items.low (hin.low.mono (by have := HPP.out; have := HGo.out.size; have := HBB.out; omega)) HIX.out
          clear hin
          by_cases hx1 : 1 < lx
          · obtain ⟨q1, hq1⟩ : ∃ y, x.kids[1]? = some y := ⟨_, List.getElem?_eq_getElem (by rw [HLX.out]; exact hx1)⟩
            obtain ⟨kb, ko, rfl, hkb, hkc⟩ := hIx.at (by omega)
            obtain ⟨uq, ⟨_, _, _, q3⟩, hiq⟩ := hkc 1 q1 hq1
            obtain ⟨Aq, cq, rfl, _⟩ := hiq.form
            have hM1 : q1.kids.length = M := by rw [← HMM.out, gIns_length hq1]
            rw [hM1] at q3 hiq
            have q3a : wr.cell? ⟨kb, ko + 7, none⟩ = some (.slice Aq M cq) := q3
            have q3b : wr.cell? ⟨kb, ko + 4 + 3, none⟩ = some (.slice Aq M cq) := q3
            have HQ1 := Lib.hid hq1
            have HM1 := Lib.hid hM1
            clear hkc hq1 hM1 q3
            by_cases hmM : m < M
            · obtain ⟨q, hq⟩ : ∃ q, q1.kids[m]? = some q := ⟨_, List.getElem?_eq_getElem (by rw [HM1.out]; exact hmM)⟩
              have HMM2 := Lib.hid hmM
              obtain ⟨kb1, ko1, rfl, hkb1, hkc1⟩ := hiq.at (by omega)
              obtain ⟨uu, ⟨_, qn, _, _⟩, _⟩ := hkc1 m q hq
              have hbp : b + 1 < p := by have := HGo.out.size; have := HPP.out; omega
              have hgi := gIns_get HQ1.out hq
              have hkw : kb < wr.heap.size ∧ kb1 < wr.heap.size ∧ kb < p ∧ kb1 < p := by have := HIN.out.size; have := HBB.out; omega
              have hC : ∀ W : World, W.heap[p]? = wr.heap[p]? → W.heap[kb]? = wr.heap[kb]? → W.heap[kb1]? = wr.heap[kb1]? → W.heap[p]? = some (.cells #[.int .i64 z0, .slice Ai li ci, .int .i64 z2, .int .u32 (u3 : Nat), .int .i64 z4, .int .i64 z5, .int .u32 (u6 : Nat)] 47) ∧ W.cell? ⟨kb, ko + 4 + 3, none⟩ = some (.slice (some ⟨kb1, ko1, none⟩) M cq) ∧ W.cell? ⟨kb1, ko1 + m * 4 + 1, none⟩ = some (.int .i64 q.n) := fun W h1 h2 h3 =>
                ⟨h1.trans HIN.out.box, (show W.cell? ⟨kb, ko + 4 + 3, none⟩ = wr.cell? ⟨kb, ko + 4 + 3, none⟩ by simp only [World.cell?, h2]).trans q3b, (show W.cell? ⟨kb1, ko1 + m * 4 + 1, none⟩ = wr.cell? ⟨kb1, ko1 + m * 4 + 1, none⟩ by simp only [World.cell?, h3]).trans qn⟩
              have HX0 := Lib.hid (hC wr.drew rfl rfl rfl)
              have hO1 := HIN.out.own.drewn
              obtain ⟨v', W', hrun, hO2, hgr, _⟩ := hO1.append (by show p + 1 ≤ wr.heap.size; exact HIN.out.size) q.n 45 (by rw [List.length_take]; omega)
              rw [← take_snoc hgi] at hO2
              obtain ⟨An, cn, hvn, _⟩ := hO2.form
              obtain ⟨ln, hln⟩ : ∃ ln, ((gIns x.kids).take (m + 1)).length = ln := ⟨_, rfl⟩
              rw [hln] at hvn
              subst hvn
              have hown := fun (g : Nat) (hg : (Value.slice Ai li ci).ownBlock = some g) => HIN.out.own.own hg
              have hsame : ∀ j, j < wr.heap.size → j ≤ p → W'.heap[j]? = wr.heap[j]? := fun j hj hjp => hgr.block j hj (fun e => by have := hown j e.symm; omega)
              have HX1 := Lib.hid (hC W' (hsame p (by have := HIN.out.size; omega) (Nat.le_refl _)) (hsame kb hkw.1 (by omega)) (hsame kb1 hkw.2.1 (by omega)))
              have HA1 := Lib.hid (hC (wr.drew.alloc (.cells #[.int .i64 q.n] 3)) (Below.heap_alloc _ _ _ (by show p < wr.heap.size; have := HIN.out.size; omega)) (Below.heap_alloc _ _ _ hkw.1) (Below.heap_alloc _ _ _ hkw.2.1))
              have hsz : wr.heap.size ≤ W'.heap.size := hgr.size
              have hlow : Below p wo W' := HIN.out.low.trans ((Below.refl p wr).drew.grown hgr (by show p ≤ wr.heap.size; have := HIN.out.size; omega) (fun g hg => by have := hown g hg; omega))
              have hnew : InG wo (W'.setCell ⟨p, 1, none⟩ (.slice An ln cn)) p z0 z2 u3 z4 z5 u6 (.slice An ln cn) ((gIns x.kids).take (m + 1)) :=
                ⟨stored7_1 HX1.out.1 _, hO2.keep (fun g hg => Below.heap_setCell _ _ _ _ (by show g ≠ p; have := hO2.own hg; omega)), hlow.setCell (p := ⟨p, 1, none⟩) (Nat.le_refl _) _, by have := HIN.out.size; simp [World.setCell]; omega⟩
              obtain ⟨⟨o0, o1, o2, o3, o4, o5, o6⟩, ⟨n0, n1, n2, n3, n4, n5, n6⟩⟩ := box7 HX1.out.1
              have hpW : p < W'.heap.size := by have := HIN.out.size; omega
              have HR := Lib.hid hrun
              have HNW := Lib.hid hnew
              clear hq hkc1 hiq hgi hC hO1 hrun hO2 hgr hln hown hsame hsz hlow hnew qn
              go_wp2_with fail
              clear q3a q3b
              refine wp_region_noPanic ?_
              refine wp_region_held_tail (C := fun W => W.heap[p]? = some (.cells #[.int .i64 z0, .slice Ai li ci, .int .i64 z2, .int .u32 (u3 : Nat), .int .i64 z4, .int .i64 z5, .int .u32 (u6 : Nat)] 47) ∧ W.cell? ⟨kb, ko + 4 + 3, none⟩ = some (.slice (some ⟨kb1, ko1, none⟩) M cq) ∧ W.cell? ⟨kb1, ko1 + m * 4 + 1, none⟩ = some (.int .i64 q.n)) [0, 1, 2, 3, 4, 5, 6, 7, 8, 9] [10, 11, 12, 13] 13 (by kernel_rfl) (by kernel_rfl) (fun _ _ _ _ _ h => h) ?_ ?_
              · exact HX0.out
              iterate 10
                refine heldI_step (v := ?_) rfl (by rfl) (fun w' hw' => ?_) ?_
                rotate_left
                · obtain ⟨hx1, hx2, hx3⟩ := hw'
                  have hx2' : w'.cell? ⟨kb, ko + 7, none⟩ = some (.slice (some ⟨kb1, ko1, none⟩) M cq) := hx2
                  obtain ⟨⟨o0, o1, o2, o3, o4, o5, o6⟩, _⟩ := box7 hx1
                  clear hx1
                  go_simp
                  all_goals with_reducible rfl
                simp only [Act.put, List.getElem_toArray, List.getElem_cons_succ, List.getElem_cons_zero, List.setIfInBounds_toArray, List.set_cons_succ, List.set_cons_zero]
              refine heldI_nil ?_
              refine seqI_step rfl ?_
              simp only [List.getElem_toArray, List.getElem_cons_succ, List.getElem_cons_zero]
              go_wp2_with fail
              refine ⟨HA1.out, ?_⟩
              refine seqI_step rfl ?_
              simp only [List.getElem_toArray, List.getElem_cons_succ, List.getElem_cons_zero]
              go_wp2_with (at_builtin; refine wpList_append_ran rfl _ _ _ rfl rfl rfl HR.out ?_)
              refine ⟨HX1.out, ?_⟩
              refine seqI_step rfl ?_
              simp only [List.getElem_toArray, List.getElem_cons_succ, List.getElem_cons_zero]
              go_wp2_with fail
              refine ⟨HX1.out, ?_⟩
              refine seqI_last rfl ?_
              simp only [List.getElem_toArray, List.getElem_cons_succ, List.getElem_cons_zero]
              go_wp2_with fail
              refine NoPanic.normal ?_
              go_wp2_with fail
              go_roundw
              case rel => exact ⟨m + 1, _, _, _, by go_num, by have := HMM2.out; omega, HNW.out⟩
              case measure => have := HMM2.out; simp [intOf]; omega
            · obtain rfl : m = M := by omega
              have hown : OwnI wr (p + 1) (.slice Ai li ci) (gIns x.kids) := by have := HIN.out.own; rwa [List.take_of_length_le (by rw [HMM.out]; omega)] at this
              have hG2 : GrowO (b + 2) wr (.slice Ag ng cg) ((gOps l).take k) := HGo.out.grow.below (by rw [HPP.out]; exact HIN.out.low)
              have hgo := fun (j : Nat) (hj : (Value.slice Ag ng cg).ownBlock = some j) => HGo.out.grow.own hj
              have hint : IntsAt (fun j => b + 2 ≤ j ∧ j < wr.heap.size ∧ (Value.slice Ag ng cg).ownBlock ≠ some j) wr (.slice Ai li ci) (gOp x.kids).ins :=
                hown.ints.mono (fun j hj => ⟨by have := HPP.out; have := HGo.out.size; omega, hj.2, fun e => by have := hgo j e; have := HPP.out; omega⟩)
              obtain ⟨v', W', hrun, hG3, hgr, hB3⟩ := hG2.append (by have := HGo.out.size; have := HIN.out.low.size; omega) (gOp x.kids) Ai li ci hint 25 (by rw [List.length_take]; have := HGG.out; omega)
              rw [← take_snoc (gOps_get HY1.out HX.out)] at hG3
              have hf0 : (gOp x.kids).kind = z0 := HZ0.out
              have hf2 : (gOp x.kids).arg = z2 := HZ2.out
              have hf3 : (gOp x.kids).num = u3 := HZ3.out
              have hf4 : (gOp x.kids).rounds = z4 := HZ4.out
              have hf5 : (gOp x.kids).test = z5 := HZ5.out
              have hf6 : (gOp x.kids).lim = u6 := HZ6.out
              rw [hf0, hf2, hf3, hf4, hf5, hf6] at hrun
              obtain ⟨An, cn, hvn, _⟩ := hG3.form
              obtain ⟨ln, hln⟩ : ∃ ln, ((gOps l).take (k + 1)).length = ln := ⟨_, rfl⟩
              rw [hln] at hvn
              subst hvn
              have hpb : b + 1 < p := by have := HGo.out.size; have := HPP.out; omega
              have hwb : wr.heap[b + 1]? = some (.cells #[.int .i64 3, .int .i64 0, .int .i64 0, .int .i64 0, .string ⟨#[]⟩, .int .u32 0, (.slice Ag ng cg), .int .i64 0] 29) := (HIN.out.low.block (b + 1) hpb).trans HGo.out.box
              have hwr : wr.heap[b]? = some Z8 := (HIN.out.low.block b (by omega)).trans HGo.out.res
              have hxb : W'.heap[b + 1]? = some (.cells #[.int .i64 3, .int .i64 0, .int .i64 0, .int .i64 0, .string ⟨#[]⟩, .int .u32 0, (.slice Ag ng cg), .int .i64 0] 29) := (hB3.block (b + 1) (by omega)).trans hwb
              have hxr : W'.heap[b]? = some Z8 := (hB3.block b (by omega)).trans hwr
              have hnew : GuS w (W'.setCell ⟨b + 1, 6, none⟩ (.slice An ln cn)) b (.slice An ln cn) ((gOps l).take (k + 1)) :=
                ⟨(Below.heap_setCell _ _ _ _ (by show b ≠ b + 1; omega)).trans hxr, stored8_6 hxb _, hG3.keep (fun j hj _ => Below.heap_setCell _ _ _ _ (by show j ≠ b + 1; omega)) (by simp [World.setCell]),
                  ((HGo.out.low.trans (HIN.out.low.mono (by omega))).trans (hB3.mono (by omega))).setCell (p := ⟨b + 1, 6, none⟩) (by show b ≤ b + 1; omega) _,
                  by have := hB3.size; have := HIN.out.low.size; have := HGo.out.size; simp [World.setCell]; omega⟩
              obtain ⟨⟨d0, d1, d2, d3, d4, d5, d6, d7⟩, _⟩ := box8 hwb
              obtain ⟨⟨g0, g1, g2, g3, g4, g5, g6, g7⟩, h0, h1, h2, h3, h4, h5, h6, h7⟩ := box8 hxb
              obtain ⟨⟨o0, o1, o2, o3, o4, o5, o6⟩, _⟩ := box7 HIN.out.box
              have hbW : b + 1 < W'.heap.size := by have := hB3.size; have := HIN.out.low.size; have := HGo.out.size; omega
              have HR := Lib.hid hrun
              have HNW := Lib.hid hnew
              clear hown hG2 hgo hint hrun hG3 hgr hB3 hln hwb hwr hxb hxr hnew hf0 hf2 hf3 hf4 hf5 hf6
              go_wp2_with (at_builtin; refine wpList_append_ran rfl _ _ _ rfl rfl rfl HR.out ?_)
              go_roundw
              case rel => exact ⟨k + 1, _, _, _, by go_num, by have := HLT.out; omega, HNW.out⟩
              case measure => have := HLT.out; simp [intOf]; omega
          · have hM0 : M = 0 := by rw [← HMM.out, gIns_none (by rw [HLX.out]; omega)]; rfl
            obtain rfl : m = 0 := by omega
            have hown : OwnI wr (p + 1) (.slice Ai li ci) (gIns x.kids) := by have := HIN.out.own; rwa [List.take_of_length_le (by rw [HMM.out]; omega)] at this
            have hG2 : GrowO (b + 2) wr (.slice Ag ng cg) ((gOps l).take k) := HGo.out.grow.below (by rw [HPP.out]; exact HIN.out.low)
            have hgo := fun (j : Nat) (hj : (Value.slice Ag ng cg).ownBlock = some j) => HGo.out.grow.own hj
            have hint : IntsAt (fun j => b + 2 ≤ j ∧ j < wr.heap.size ∧ (Value.slice Ag ng cg).ownBlock ≠ some j) wr (.slice Ai li ci) (gOp x.kids).ins :=
              hown.ints.mono (fun j hj => ⟨by have := HPP.out; have := HGo.out.size; omega, hj.2, fun e => by have := hgo j e; have := HPP.out; omega⟩)
            obtain ⟨v', W', hrun, hG3, hgr, hB3⟩ := hG2.append (by have := HGo.out.size; have := HIN.out.low.size; omega) (gOp x.kids) Ai li ci hint 25 (by rw [List.length_take]; have := HGG.out; omega)
            rw [← take_snoc (gOps_get HY1.out HX.out)] at hG3
            have hf0 : (gOp x.kids).kind = z0 := HZ0.out
            have hf2 : (gOp x.kids).arg = z2 := HZ2.out
            have hf3 : (gOp x.kids).num = u3 := HZ3.out
            have hf4 : (gOp x.kids).rounds = z4 := HZ4.out
            have hf5 : (gOp x.kids).test = z5 := HZ5.out
            have hf6 : (gOp x.kids).lim = u6 := HZ6.out
            rw [hf0, hf2, hf3, hf4, hf5, hf6] at hrun
            obtain ⟨An, cn, hvn, _⟩ := hG3.form
            obtain ⟨ln, hln⟩ : ∃ ln, ((gOps l).take (k + 1)).length = ln := ⟨_, rfl⟩
            rw [hln] at hvn
            subst hvn
            have hpb : b + 1 < p := by have := HGo.out.size; have := HPP.out; omega
            have hwb : wr.heap[b + 1]? = some (.cells #[.int .i64 3, .int .i64 0, .int .i64 0, .int .i64 0, .string ⟨#[]⟩, .int .u32 0, (.slice Ag ng cg), .int .i64 0] 29) := (HIN.out.low.block (b + 1) hpb).trans HGo.out.box
            have hwr : wr.heap[b]? = some Z8 := (HIN.out.low.block b (by omega)).trans HGo.out.res
            have hxb : W'.heap[b + 1]? = some (.cells #[.int .i64 3, .int .i64 0, .int .i64 0, .int .i64 0, .string ⟨#[]⟩, .int .u32 0, (.slice Ag ng cg), .int .i64 0] 29) := (hB3.block (b + 1) (by omega)).trans hwb
            have hxr : W'.heap[b]? = some Z8 := (hB3.block b (by omega)).trans hwr
            have hnew : GuS w (W'.setCell ⟨b + 1, 6, none⟩ (.slice An ln cn)) b (.slice An ln cn) ((gOps l).take (k + 1)) :=
              ⟨(Below.heap_setCell _ _ _ _ (by show b ≠ b + 1; omega)).trans hxr, stored8_6 hxb _, hG3.keep (fun j hj _ => Below.heap_setCell _ _ _ _ (by show j ≠ b + 1; omega)) (by simp [World.setCell]),
                ((HGo.out.low.trans (HIN.out.low.mono (by omega))).trans (hB3.mono (by omega))).setCell (p := ⟨b + 1, 6, none⟩) (by show b ≤ b + 1; omega) _,
                by have := hB3.size; have := HIN.out.low.size; have := HGo.out.size; simp [World.setCell]; omega⟩
            obtain ⟨⟨d0, d1, d2, d3, d4, d5, d6, d7⟩, _⟩ := box8 hwb
            obtain ⟨⟨g0, g1, g2, g3, g4, g5, g6, g7⟩, h0, h1, h2, h3, h4, h5, h6, h7⟩ := box8 hxb
            obtain ⟨⟨o0, o1, o2, o3, o4, o5, o6⟩, _⟩ := box7 HIN.out.box
            have hbW : b + 1 < W'.heap.size := by have := hB3.size; have := HIN.out.low.size; have := HGo.out.size; omega
            have HR := Lib.hid hrun
            have HNW := Lib.hid hnew
            clear hown hG2 hgo hint hrun hG3 hgr hB3 hln hwb hwr hxb hxr hnew hf0 hf2 hf3 hf4 hf5 hf6
            go_wp2_with (at_builtin; refine wpList_append_ran rfl _ _ _ rfl rfl rfl HR.out ?_)
            go_roundw
            case rel => exact ⟨k + 1, _, _, _, by go_num, by have := HLT.out; omega, HNW.out⟩
            case measure => have := HLT.out; simp [intOf]; omega
      · obtain rfl : k = G := by omega
        have HGG2 := HGL
        clear hi1 hIw
        have hG := HGo.out
        rw [List.take_of_length_le (by have := HGG2.out; omega)] at hG
        obtain ⟨⟨e0, e1, e2, e3, e4, e5, e6, e7⟩, _⟩ := box8 hG.box
        obtain ⟨⟨p0, p1, p2, p3, p4, p5, p6, p7⟩, z0, z1, z2, z3, z4, z5, z6, z7⟩ := box8 hG.res
        have hbw : b < wr.heap.size := by have := hG.size; omega
        have HG := Lib.hid hG
        clear hG
        go_wp2_with fail
        have hfin := stored8 HG.out.res (.int .i64 3) (.int .i64 0) (.int .i64 0) (.int .i64 0) (.string ⟨#[]⟩) (.int .u32 0) (.slice Ag ng cg) (.int .i64 0)
        have hgr : wr.grownBy _ (some b) := set8_grown (W := wr) (b := b) (.int .i64 3) (.int .i64 0) (.int .i64 0) (.int .i64 0) (.string ⟨#[]⟩) (.int .u32 0) (.slice Ag ng cg) (.int .i64 0)
        clear p0 p1 p2 p3 p4 p5 p6 p7 z0 z1 z2 z3 z4 z5 z6 z7 e0 e1 e2 e3 e4 e5 e6 e7
        generalize ((((((((wr.setCell ⟨b, 0, none⟩ (.int .i64 3)).setCell ⟨b, 1, none⟩ (.int .i64 0)).setCell ⟨b, 2, none⟩ (.int .i64 0)).setCell ⟨b, 3, none⟩ (.int .i64 0)).setCell ⟨b, 4, none⟩ (.string ⟨#[]⟩)).setCell ⟨b, 5, none⟩ (.int .u32 0)).setCell ⟨b, 6, none⟩ (.slice Ag ng cg)).setCell ⟨b, 7, none⟩ (.int .i64 0)) = W at hfin hgr ⊢
        obtain ⟨⟨r0, r1, r2, r3, r4, r5, r6, r7⟩, _⟩ := box8 hfin
        exact bodyPost_ret (v := .agg #[.int .i64 3, .int .i64 0, .int .i64 0, .int .i64 0, .string ⟨#[]⟩, .int .u32 0, .slice Ag ng cg, .int .i64 0]) (by simp [results, Try.results27, go_sem, r0, r1, r2, r3, r4, r5, r6, r7]) rfl ⟨Ag, ng, cg, rfl, HG.out.grow.ops.keep (fun j hj => hgr.block j hj.2 (fun e => by simp only [Option.some.injEq] at e; omega)) (fun j hj => ⟨by have := HBB.out; omega, by have := hgr.size; omega⟩), (HBB.out ▸ HG.out.low : Below w.heap.size w wr).grown hgr (by have := HG.out.low.size; have := HBB.out; have := HG.out.size; omega) (fun q hq => by simp only [Option.some.injEq] at hq; have := HBB.out; omega)⟩
    · have hG0 : G = 0 := by rw [← HGL.out, gOps_none (by rw [HLEN.out]; omega)]; rfl
      obtain rfl : k = 0 := by omega
      have HGG2 : Hid ((gOps l).length = 0) := Lib.hid (by rw [gOps_none (by rw [HLEN.out]; omega)]; rfl)
      clear hIw
      have hG := HGo.out
      rw [List.take_of_length_le (by have := HGG2.out; omega)] at hG
      obtain ⟨⟨e0, e1, e2, e3, e4, e5, e6, e7⟩, _⟩ := box8 hG.box
      obtain ⟨⟨p0, p1, p2, p3, p4, p5, p6, p7⟩, z0, z1, z2, z3, z4, z5, z6, z7⟩ := box8 hG.res
      have hbw : b < wr.heap.size := by have := hG.size; omega
      have HG := Lib.hid hG
      clear hG
      go_wp2_with fail
      have hfin := stored8 HG.out.res (.int .i64 3) (.int .i64 0) (.int .i64 0) (.int .i64 0) (.string ⟨#[]⟩) (.int .u32 0) (.slice Ag ng cg) (.int .i64 0)
      have hgr : wr.grownBy _ (some b) := set8_grown (W := wr) (b := b) (.int .i64 3) (.int .i64 0) (.int .i64 0) (.int .i64 0) (.string ⟨#[]⟩) (.int .u32 0) (.slice Ag ng cg) (.int .i64 0)
      clear p0 p1 p2 p3 p4 p5 p6 p7 z0 z1 z2 z3 z4 z5 z6 z7 e0 e1 e2 e3 e4 e5 e6 e7
      generalize ((((((((wr.setCell ⟨b, 0, none⟩ (.int .i64 3)).setCell ⟨b, 1, none⟩ (.int .i64 0)).setCell ⟨b, 2, none⟩ (.int .i64 0)).setCell ⟨b, 3, none⟩ (.int .i64 0)).setCell ⟨b, 4, none⟩ (.string ⟨#[]⟩)).setCell ⟨b, 5, none⟩ (.int .u32 0)).setCell ⟨b, 6, none⟩ (.slice Ag ng cg)).setCell ⟨b, 7, none⟩ (.int .i64 0)) = W at hfin hgr ⊢
      obtain ⟨⟨r0, r1, r2, r3, r4, r5, r6, r7⟩, _⟩ := box8 hfin
      exact bodyPost_ret (v := .agg #[.int .i64 3, .int .i64 0, .int .i64 0, .int .i64 0, .string ⟨#[]⟩, .int .u32 0, .slice Ag ng cg, .int .i64 0]) (by simp [results, Try.results27, go_sem, r0, r1, r2, r3, r4, r5, r6, r7]) rfl ⟨Ag, ng, cg, rfl, HG.out.grow.ops.keep (fun j hj => hgr.block j hj.2 (fun e => by simp only [Option.some.injEq] at e; omega)) (fun j hj => ⟨by have := HBB.out; omega, by have := hgr.size; omega⟩), (HBB.out ▸ HG.out.low : Below w.heap.size w wr).grown hgr (by have := HG.out.low.size; have := HBB.out; have := HG.out.size; omega) (fun q hq => by simp only [Option.some.injEq] at hq; have := HBB.out; omega)⟩


end Go.Proofs.Ytffehnojcajhiaa.Wire.Entry
