/-
  Contract of opItem. Contract of opItem. Contract of graphItem.
-/
import Derived.Test.YtffehnojcajhiaaEgB
import Derived.Test.YtffehnojcajhiaaWireGrow
import Derived.Test.YtffehnojcajhiaaEgS
import Derived.LoopTactic
namespace Go.Proofs.Ytffehnojcajhiaa.Wire.Entry
open Go Go.RowKit Go.Proofs.Ytffehnojcajhiaa.Law

/-- Items are few enough to be copied. -/
theorem iI_roomy (n : Int) : (iI n).roomy := by rw [iI, Item.roomy, roomyL]; exact ⟨by decide, trivial⟩
theorem iT_roomy (s : ByteArray) : (iT s).roomy := by rw [iT, Item.roomy, roomyL]; exact ⟨by decide, trivial⟩
theorem roomyL_all : ∀ {l : List Item}, (∀ x ∈ l, x.roomy) → roomyL l
  | [], _ => by rw [roomyL]; trivial
  | x :: r, h => by rw [roomyL]; exact ⟨h x List.mem_cons_self, roomyL_all (fun y hy => h y (List.mem_cons_of_mem _ hy))⟩
theorem insL_roomy (l : List Int) : roomyL (insL l) := roomyL_all fun x hx => by
  obtain ⟨y, _, rfl⟩ := List.mem_map.1 hx
  exact iI_roomy y
theorem iL_roomy {l : List Item} (h : l.length * 56 ≤ 140737488355328) (hr : roomyL l) : (iL l).roomy := by rw [iL, Item.roomy]; exact ⟨h, hr⟩
theorem opL_roomy {x : Opr} (h : x.ins.length ≤ 2) : roomyL (opL x) := by
  rw [opL, roomyL, roomyL, roomyL, roomyL, roomyL, roomyL, roomyL, roomyL]
  exact ⟨iI_roomy _, iL_roomy (by rw [insL_length]; omega) (insL_roomy _), iI_roomy _, iI_roomy _, iI_roomy _, iI_roomy _, iI_roomy _, trivial⟩
theorem opI_roomy {x : Opr} (h : x.ins.length ≤ 2) : (opI x).roomy := iL_roomy (by show 7 * 56 ≤ _; decide) (opL_roomy h)
theorem opsL_roomy {l : List Opr} (h : ∀ x ∈ l, x.ins.length ≤ 2) : roomyL (opsL l) := roomyL_all fun x hx => by
  obtain ⟨y, hy, rfl⟩ := List.mem_map.1 hx
  exact opI_roomy (h y hy)

/-- An operator's own block. -/
def OBox (W : World) (b : Nat) (x : Opr) (u : Value) : Prop :=
  W.heap[b]? = some (.cells #[.int .i64 x.kind, u, .int .i64 x.arg, .int .u32 (x.num : Nat), .int .i64 x.rounds, .int .i64 x.test, .int .u32 (x.lim : Nat)] 47)
theorem OBox.new (w : World) (x : Opr) (u : Value) : OBox (w.alloc (.cells #[.int .i64 x.kind, u, .int .i64 x.arg, .int .u32 (x.num : Nat), .int .i64 x.rounds, .int .i64 x.test, .int .u32 (x.lim : Nat)] 47)) w.heap.size x u := heap_alloc_new w _
theorem OBox.low {W W' : World} {b n : Nat} {x : Opr} {u : Value} (h : OBox W b x u) (hB : Below n W W') (hb : b < n) : OBox W' b x u := (hB.block b hb).trans h
theorem OBox.cells {W : World} {b : Nat} {x : Opr} {u : Value} (h : OBox W b x u) : Cells7 W b 0 x u := by
  unfold OBox at h
  refine ⟨?_, ?_, ?_, ?_, ?_, ?_, ?_⟩ <;> simp [World.cell?, h]

theorem stored4 {W : World} {b : Nat} {a0 a1 a2 a3 : Value} {T : TypeId} (h : W.heap[b]? = some (.cells #[a0, a1, a2, a3] T)) (k n s u : Value) :
    ((((W.setCell ⟨b, 0, none⟩ k).setCell ⟨b, 1, none⟩ n).setCell ⟨b, 2, none⟩ s).setCell ⟨b, 3, none⟩ u).heap[b]? = some (.cells #[k, n, s, u] T) := by
  simp [World.setCell, Array.getElem?_modify, h]
theorem set4_other {W : World} {b j : Nat} (h : j ≠ b) (k n s u : Value) :
    ((((W.setCell ⟨b, 0, none⟩ k).setCell ⟨b, 1, none⟩ n).setCell ⟨b, 2, none⟩ s).setCell ⟨b, 3, none⟩ u).heap[j]? = W.heap[j]? := by
  rw [Below.heap_setCell _ _ _ _ h, Below.heap_setCell _ _ _ _ h, Below.heap_setCell _ _ _ _ h, Below.heap_setCell _ _ _ _ h]
theorem set4_size {W : World} {b : Nat} (k n s u : Value) : ((((W.setCell ⟨b, 0, none⟩ k).setCell ⟨b, 1, none⟩ n).setCell ⟨b, 2, none⟩ s).setCell ⟨b, 3, none⟩ u).heap.size = W.heap.size := by simp [World.setCell]
theorem set4_below {B : Nat} {w W : World} {b : Nat} (h : Below B w W) (hb : B ≤ b) (k n s u : Value) : Below B w ((((W.setCell ⟨b, 0, none⟩ k).setCell ⟨b, 1, none⟩ n).setCell ⟨b, 2, none⟩ s).setCell ⟨b, 3, none⟩ u) :=
  (((h.setCell (p := ⟨b, 0, none⟩) hb k).setCell (p := ⟨b, 1, none⟩) hb n).setCell (p := ⟨b, 2, none⟩) hb s).setCell (p := ⟨b, 3, none⟩) hb u
theorem box4_cells {W : World} {b : Nat} {a0 a1 a2 a3 : Value} {T : TypeId} (h : W.heap[b]? = some (.cells #[a0, a1, a2, a3] T)) :
    (W.cell? ⟨b, 0, none⟩ = some a0 ∧ W.cell? ⟨b, 1, none⟩ = some a1 ∧ W.cell? ⟨b, 2, none⟩ = some a2 ∧ W.cell? ⟨b, 3, none⟩ = some a3) ∧
    W.frozen? ⟨b, 0, none⟩ = false ∧ W.frozen? ⟨b, 1, none⟩ = false ∧ W.frozen? ⟨b, 2, none⟩ = false ∧ W.frozen? ⟨b, 3, none⟩ = false := by
  refine ⟨⟨?_, ?_, ?_, ?_⟩, ?_, ?_, ?_, ?_⟩ <;> simp [World.cell?, World.frozen?, h]

theorem insL_get {l : List Int} {k : Nat} {y : Int} (h : l[k]? = some y) : insL (l.take (k + 1)) = insL (l.take k) ++ [iI y] := by
  have hk : k < l.length := (List.getElem?_eq_some_iff.1 h).1
  rw [List.take_succ_eq_append_getElem hk]
  rw [List.getElem?_eq_getElem hk, Option.some.injEq] at h
  rw [h]
  simp [insL]

/-- One int is put behind a growing list. -/
theorem grow_int {lo : Nat} {W : World} {v : Value} {l : List Item} (h : Grow lo W.heap.size W v l) (hlo : lo ≤ W.heap.size) (n : Int) (ty : TypeId) (hroom : (l.length + 1) * 56 ≤ 140737488355328) :
    ∃ v' W', (Builtin.append_ #[51, 51] ty #[v, .slice (some ⟨W.heap.size, 0, none⟩) 1 1]).run Try.prog (W.alloc (.cells #[.int .i64 0, .int .i64 n, .string ⟨#[]⟩, .slice none 0 0] 71)) = .ok v' W' ∧ Grow lo W'.heap.size W' v' (l ++ [iI n]) ∧ Below lo W W' := by
  obtain ⟨v', W', h1, h2, h3, _⟩ := h.append hlo (iI n) (.slice none 0 0) (.nil none 0 _ (fun _ => rfl) rfl) ty hroom
  obtain ⟨_, _, val, h5, _⟩ := h
  exact ⟨v', W', h1, h2, (Below.refl _ _).grown h3 hlo (fun k hk => (h5.1.lt k hk).1)⟩

end Go.Proofs.Ytffehnojcajhiaa.Wire.Entry

namespace Go.Proofs.Ytffehnojcajhiaa.Wire.Entry
open Go Go.RowKit Go.Proofs.Ytffehnojcajhiaa.Law

theorem op_flat (x : Opr) (A : Option Addr) (l c : Nat) : #[Value.int .i64 0, .int .i64 x.kind, .string ⟨#[]⟩, .slice none 0 0, .int .i64 2, .int .i64 0, .string ⟨#[]⟩, .slice A l c, .int .i64 0, .int .i64 x.arg, .string ⟨#[]⟩, .slice none 0 0, .int .i64 0, .int .i64 (x.num : Nat), .string ⟨#[]⟩, .slice none 0 0, .int .i64 0, .int .i64 x.rounds, .string ⟨#[]⟩, .slice none 0 0, .int .i64 0, .int .i64 x.test, .string ⟨#[]⟩, .slice none 0 0, .int .i64 0, .int .i64 (x.lim : Nat), .string ⟨#[]⟩, .slice none 0 0].toList = flat (opL x) (fun j => if j = 1 then .slice A l c else .slice none 0 0) := rfl
theorem op_kids {S : Nat → Prop} {W : World} (x : Opr) (v : Value) (h : Items S W v (insL x.ins)) : ∀ (j : Nat) (y : Item), (opL x)[j]? = some y → Items S W (if j = 1 then v else .slice none 0 0) y.kids := by
  intro j y hy
  match j, hy with
  | 0, hy => simp [opL] at hy; subst hy; exact .nil none 0 _ (fun _ => rfl) rfl
  | 1, hy => simp [opL] at hy; subst hy; exact h
  | 2, hy => simp [opL] at hy; subst hy; exact .nil none 0 _ (fun _ => rfl) rfl
  | 3, hy => simp [opL] at hy; subst hy; exact .nil none 0 _ (fun _ => rfl) rfl
  | 4, hy => simp [opL] at hy; subst hy; exact .nil none 0 _ (fun _ => rfl) rfl
  | 5, hy => simp [opL] at hy; subst hy; exact .nil none 0 _ (fun _ => rfl) rfl
  | 6, hy => simp [opL] at hy; subst hy; exact .nil none 0 _ (fun _ => rfl) rfl
  | j + 7, hy => simp [opL] at hy

set_option maxRecDepth 100000 in
set_option maxHeartbeats 4000000 in
theorem opItem_calls (x : Opr) (hnum : x.num < 4294967296) (hlim : x.lim < 4294967296) (hx2 : x.ins.length ≤ 2) (u : Value) (w : World) (h : OldI w.heap.size w u x.ins) : Calls Try.prog 51 #[opV x u] w (RetList w (opL x)) := by
  obtain ⟨A, cap, rfl, hcap⟩ := h.form
  obtain ⟨n, hn⟩ : ∃ n, x.ins.length = n := ⟨_, rfl⟩
  rw [hn] at h hcap hx2 ⊢
  obtain ⟨b, hb⟩ : ∃ b, w.heap.size = b := ⟨_, rfl⟩
  have hB0 : Below w.heap.size w ((w.alloc (.cells #[.int .i64 x.kind, .slice A n cap, .int .i64 x.arg, .int .u32 (x.num : Nat), .int .i64 x.rounds, .int .i64 x.test, .int .u32 (x.lim : Nat)] 47)).alloc (.cells #[.int .i64 0, .int .i64 0, .string ⟨#[]⟩, .slice none 0 0] 71)) :=
    ((Below.refl _ _).alloc (Nat.le_refl _) _).alloc (by simp) _
  have hX0 : OBox ((w.alloc (.cells #[.int .i64 x.kind, .slice A n cap, .int .i64 x.arg, .int .u32 (x.num : Nat), .int .i64 x.rounds, .int .i64 x.test, .int .u32 (x.lim : Nat)] 47)).alloc (.cells #[.int .i64 0, .int .i64 0, .string ⟨#[]⟩, .slice none 0 0] 71)) b x (.slice A n cap) := by
    rw [← hb]
    exact (OBox.new w x (.slice A n cap)).low ((Below.refl _ _).alloc (Nat.le_refl _) _) (by simp)
  have hR0 : ((w.alloc (.cells #[.int .i64 x.kind, .slice A n cap, .int .i64 x.arg, .int .u32 (x.num : Nat), .int .i64 x.rounds, .int .i64 x.test, .int .u32 (x.lim : Nat)] 47)).alloc (.cells #[.int .i64 0, .int .i64 0, .string ⟨#[]⟩, .slice none 0 0] 71)).heap[b + 1]? = some (.cells #[.int .i64 0, .int .i64 0, .string ⟨#[]⟩, .slice none 0 0] 71) := by
    have := heap_alloc_new (w.alloc (.cells #[.int .i64 x.kind, .slice A n cap, .int .i64 x.arg, .int .u32 (x.num : Nat), .int .i64 x.rounds, .int .i64 x.test, .int .u32 (x.lim : Nat)] 47)) (.cells #[.int .i64 0, .int .i64 0, .string ⟨#[]⟩, .slice none 0 0] 71)
    rwa [World.size_alloc, hb] at this
  have hS0 : ((w.alloc (.cells #[.int .i64 x.kind, .slice A n cap, .int .i64 x.arg, .int .u32 (x.num : Nat), .int .i64 x.rounds, .int .i64 x.test, .int .u32 (x.lim : Nat)] 47)).alloc (.cells #[.int .i64 0, .int .i64 0, .string ⟨#[]⟩, .slice none 0 0] 71)).heap.size = b + 2 := by simp [hb]
  have HB0 := Lib.hid hB0
  have HX0 := Lib.hid hX0
  have HR0 := Lib.hid hR0
  have HS0 := Lib.hid hS0
  have HI := Lib.hid h
  have HN := Lib.hid hn
  have HBB := Lib.hid hb
  clear hB0 hX0 hR0 hS0 h hn
  go_enter Try.func51, Try.ntmps51
  go_wp2_with fail
  have hB0 := HB0.out
  have hX0 := HX0.out
  have hR0 := HR0.out
  have hS0 := HS0.out
  clear HB0 HX0 HR0 HS0
  generalize ((w.alloc (.cells #[.int .i64 x.kind, .slice A n cap, .int .i64 x.arg, .int .u32 (x.num : Nat), .int .i64 x.rounds, .int .i64 x.test, .int .u32 (x.lim : Nat)] 47)).alloc (.cells #[.int .i64 0, .int .i64 0, .string ⟨#[]⟩, .slice none 0 0] 71)) = w0 at hB0 hX0 hR0 hS0 ⊢
  rw [hb] at hB0
  have HB0 := Lib.hid hB0
  have HX0 := Lib.hid hX0
  have HR0 := Lib.hid hR0
  have HS0 := Lib.hid hS0
  clear hB0 hX0 hR0 hS0 hb
  go_loopw [3, 9] (fun v i wr => ∃ k : Nat, i = .int .i64 k ∧ k ≤ n ∧ (∃ B l c, v = .slice B l c) ∧ Grow (b + 2) wr.heap.size wr v (insL (x.ins.take k)) ∧ Below (b + 2) w0 wr) (fun _ i _ => n - (intOf i).toNat)
  case atStart => exact ⟨0, rfl, Nat.zero_le _, ⟨_, _, _, rfl⟩, Grow.nil _ _ _ (Nat.le_refl _), Below.refl _ _⟩
  case round =>
    obtain ⟨k, rfl, hk, ⟨Bv, lv, cv, rfl⟩, hG, hB⟩ := hrel
    have hsz : b + 2 ≤ wr.heap.size := by have := hB.size; rw [HS0.out] at this; exact this
    have HG := Lib.hid hG
    have HB := Lib.hid hB
    clear hG hB
    by_cases hlt : k < n
    · obtain ⟨y, hy⟩ : ∃ y, x.ins[k]? = some y := ⟨_, List.getElem?_eq_getElem (by rw [HN.out]; exact hlt)⟩
      have hII := IntsAt.low ((HBB.out ▸ HB0.out : Below w.heap.size w w0).trans (HB.out.mono (by rw [HBB.out]; omega))) HI.out
      obtain ⟨ib, io, rfl, _, hcell⟩ := hII.at (by omega)
      have hc := hcell k y hy
      have HY := Lib.hid hy
      clear hcell hy hII
      go_wp2_with fail
      refine (int_calls y _).mono ?_
      rintro e w2 ⟨rfl, hB2⟩
      have hs2 := hB2.size
      have hG2 := HG.out.below hB2
      have hlen : (insL (x.ins.take k)).length ≤ 2 := by rw [insL_length, List.length_take]; omega
      obtain ⟨v', W', hrun, hG3, hB3⟩ := grow_int hG2 (by omega) y 51 (by omega)
      have HR := Lib.hid hrun
      rw [← insL_get HY.out] at hG3
      obtain ⟨B3, c3, hv3, _⟩ := hG3.form
      obtain ⟨l3, hl3⟩ : ∃ l3, (insL (x.ins.take (k + 1))).length = l3 := ⟨_, rfl⟩
      rw [hl3] at hv3
      subst hv3
      have HG3 := Lib.hid hG3
      have HB3 := Lib.hid (HB.out.trans ((hB2.mono hsz).trans hB3))
      clear hB2 hG2 hrun hG3 hB3 HG HB hl3
      go_wp2_with (at_builtin; refine wpList_append_ran rfl _ _ _ rfl rfl rfl HR.out ?_)
      go_roundw
      case rel => exact ⟨k + 1, by go_num, by omega, ⟨_, _, _, rfl⟩, HG3.out, HB3.out⟩
      case measure => simp [intOf]; omega
    · obtain rfl : k = n := by omega
      have hG := HG.out
      rw [List.take_of_length_le (by rw [HN.out]; exact Nat.le_refl _)] at hG
      have HL := Lib.hid (hG.items)
      have hlv : lv = k := by
        obtain ⟨B', c', hv, _⟩ := hG.form
        simp only [Value.slice.injEq] at hv
        rw [hv.2.1, insL_length, HN.out]
      subst hlv
      clear HG hG
      have HX : Hid (∀ W, Below wr.heap.size wr W → Cells7 W b 0 x (.slice A lv cap)) := Lib.hid fun W hW => ((HX0.out.low HB.out (by omega)).low hW (by omega)).cells
      have HI1 : Hid (∀ n W, Calls Try.prog 32 #[.int .i64 n] W fun e W' => e = .returned (.agg #[.int .i64 0, .int .i64 n, .string ⟨#[]⟩, .slice none 0 0]) ∧ Below W.heap.size W W') := Lib.hid fun n W => int_calls n W
      have HL1 : Hid (∀ W, Below wr.heap.size wr W → Calls Try.prog 52 #[.slice Bv lv cv] W fun e W' => ∃ A c, e = .returned (.agg #[.int .i64 2, .int .i64 0, .string ⟨#[]⟩, .slice A lv c]) ∧ Hid (Old W'.heap.size W' (.slice A lv c) (insL x.ins)) ∧ Below W.heap.size W W') := Lib.hid fun W hW => by
        have hI2 : Old wr.heap.size wr (.slice Bv lv cv) (insL x.ins) := HL.out.mono (fun _ h => h.2)
        refine (list_calls (insL x.ins) (by rw [insL_length, HN.out]; omega) (insL_roomy _) _ W (hI2.on hW)).mono ?_
        rintro e W' ⟨v, rfl, hF, hB'⟩
        obtain ⟨A', c', rfl, _⟩ := hF.form
        rw [insL_length, HN.out] at hF ⊢
        exact ⟨A', c', rfl, Lib.hid (hF.mono (fun _ h => h.2)), hB'⟩
      have hbn1 : -9223372036854775808 ≤ ((x.num : Nat) : Int) ∧ ((x.num : Nat) : Int) ≤ 9223372036854775807 := by omega
      have hbl1 : -9223372036854775808 ≤ ((x.lim : Nat) : Int) ∧ ((x.lim : Nat) : Int) ≤ 9223372036854775807 := by omega
      obtain ⟨hbn1, hbn2⟩ := hbn1
      obtain ⟨hbl1, hbl2⟩ := hbl1
      clear HI hnum hlim
      go_wp2_with fail
      refine wp_region_noPanic ?_
      refine wp_region_held_tail (C := fun w' => Below wr.heap.size wr w') [0, 1, 3, 5, 6, 8, 9, 10, 12, 13, 15, 16, 18, 19, 20] [2, 4, 7, 11, 14, 17, 21, 22, 23, 24] 24 (by kernel_rfl) (by kernel_rfl) (fun _ _ _ _ _ h => h) ?_ ?_
      · exact (Below.refl _ _).drew
      iterate 15
        refine heldI_step (v := ?_) rfl (by rfl) (fun w' hw' => ?_) ?_
        rotate_left
        · obtain ⟨k0, k1, k2, k3, k4, k5, k6⟩ := HX.out w' hw'
          go_simp
          all_goals with_reducible rfl
        simp only [Act.put, List.getElem_toArray, List.getElem_cons_succ, List.getElem_cons_zero, List.setIfInBounds_toArray, List.set_cons_succ, List.set_cons_zero]
      refine heldI_nil ?_
      refine seqI_step rfl ?_
      clear HX
      go_wp2_with (go_at_call 32; ((with_reducible refine (HI1.out _ _).mono ?_); rintro e W1 ⟨rfl, B1⟩; have T1 := (Below.refl wr.heap.size wr).drew.trans (B1.mono (Nat.le_refl _))))
      refine ⟨T1, ?_⟩
      clear B1
      have H1 := Lib.hid T1
      have CL := HL1.out W1 T1
      have HCL := Lib.hid CL
      have s1 := T1.size
      clear T1 CL HL1
      refine seqI_step rfl ?_
      go_wp2_with (go_at_call 52; ((with_reducible refine HCL.out.mono ?_); rintro e W2 ⟨A2, c2, rfl, HO2, B2⟩; have T2 := H1.out.trans (B2.mono s1)))
      refine ⟨T2, ?_⟩
      clear B2 HCL H1
      have H2 := Lib.hid T2
      have s2 := T2.size
      clear T2
      refine seqI_step rfl ?_
      go_wp2_with (go_at_call 32; ((with_reducible refine (HI1.out _ _).mono ?_); rintro e W3 ⟨rfl, B3⟩; have T3 := H2.out.trans (B3.mono s2); have HO3 := Lib.hid (HO2.out.on B3)))
      refine ⟨T3, ?_⟩
      clear B3 HO2 H2
      have H3 := Lib.hid T3
      have s3 := T3.size
      clear T3
      refine seqI_step rfl ?_
      go_wp2_with (go_at_call 32; ((with_reducible refine (HI1.out _ _).mono ?_); rintro e W4 ⟨rfl, B4⟩; have T4 := H3.out.trans (B4.mono s3); have HO4 := Lib.hid (HO3.out.on B4)))
      refine ⟨T4, ?_⟩
      clear B4 HO3 H3
      have H4 := Lib.hid T4
      have s4 := T4.size
      clear T4
      refine seqI_step rfl ?_
      go_wp2_with (go_at_call 32; ((with_reducible refine (HI1.out _ _).mono ?_); rintro e W5 ⟨rfl, B5⟩; have T5 := H4.out.trans (B5.mono s4); have HO5 := Lib.hid (HO4.out.on B5)))
      refine ⟨T5, ?_⟩
      clear B5 HO4 H4
      have H5 := Lib.hid T5
      have s5 := T5.size
      clear T5
      refine seqI_step rfl ?_
      go_wp2_with (go_at_call 32; ((with_reducible refine (HI1.out _ _).mono ?_); rintro e W6 ⟨rfl, B6⟩; have T6 := H5.out.trans (B6.mono s5); have HO6 := Lib.hid (HO5.out.on B6)))
      refine ⟨T6, ?_⟩
      clear B6 HO5 H5
      have H6 := Lib.hid T6
      have s6 := T6.size
      clear T6
      refine seqI_step rfl ?_
      go_wp2_with (go_at_call 32; ((with_reducible refine (HI1.out _ _).mono ?_); rintro e W7 ⟨rfl, B7⟩; have T7 := H6.out.trans (B7.mono s6); have HO7 := Lib.hid (HO6.out.on B7)))
      refine ⟨T7, ?_⟩
      clear B7 HO6 H6
      have H7 := Lib.hid T7
      have s7 := T7.size
      clear T7
      refine seqI_step rfl ?_
      go_wp2_with fail
      refine ⟨H7.out.alloc s7 _, ?_⟩
      have hlit : Old (W7.alloc (.cells #[.int .i64 0, .int .i64 x.kind, .string ⟨#[]⟩, .slice none 0 0, .int .i64 2, .int .i64 0, .string ⟨#[]⟩, .slice A2 lv c2, .int .i64 0, .int .i64 x.arg, .string ⟨#[]⟩, .slice none 0 0, .int .i64 0, .int .i64 (x.num : Nat), .string ⟨#[]⟩, .slice none 0 0, .int .i64 0, .int .i64 x.rounds, .string ⟨#[]⟩, .slice none 0 0, .int .i64 0, .int .i64 x.test, .string ⟨#[]⟩, .slice none 0 0, .int .i64 0, .int .i64 (x.lim : Nat), .string ⟨#[]⟩, .slice none 0 0] 71)).heap.size (W7.alloc (.cells #[.int .i64 0, .int .i64 x.kind, .string ⟨#[]⟩, .slice none 0 0, .int .i64 2, .int .i64 0, .string ⟨#[]⟩, .slice A2 lv c2, .int .i64 0, .int .i64 x.arg, .string ⟨#[]⟩, .slice none 0 0, .int .i64 0, .int .i64 (x.num : Nat), .string ⟨#[]⟩, .slice none 0 0, .int .i64 0, .int .i64 x.rounds, .string ⟨#[]⟩, .slice none 0 0, .int .i64 0, .int .i64 x.test, .string ⟨#[]⟩, .slice none 0 0, .int .i64 0, .int .i64 (x.lim : Nat), .string ⟨#[]⟩, .slice none 0 0] 71)) (.slice (some ⟨W7.heap.size, 0, none⟩) 7 7) (opL x) := by
        have h := lit_items (S := fun b => b < W7.heap.size + 1) W7 (opL x) (fun j => if j = 1 then .slice A2 lv c2 else .slice none 0 0) _ 7 W7.heap.size rfl rfl (op_flat x A2 lv c2) (by omega) (op_kids x _ (Items.more (Nat.le_succ _) (Items.low ((Below.refl _ _).alloc (Nat.le_refl _) (.cells #[.int .i64 0, .int .i64 x.kind, .string ⟨#[]⟩, .slice none 0 0, .int .i64 2, .int .i64 0, .string ⟨#[]⟩, .slice A2 lv c2, .int .i64 0, .int .i64 x.arg, .string ⟨#[]⟩, .slice none 0 0, .int .i64 0, .int .i64 (x.num : Nat), .string ⟨#[]⟩, .slice none 0 0, .int .i64 0, .int .i64 x.rounds, .string ⟨#[]⟩, .slice none 0 0, .int .i64 0, .int .i64 x.test, .string ⟨#[]⟩, .slice none 0 0, .int .i64 0, .int .i64 (x.lim : Nat), .string ⟨#[]⟩, .slice none 0 0] 71)) HO7.out)))
        rw [World.size_alloc]
        exact h
      have CL2 := Lib.hid (list_calls (opL x) (by show 7 * 56 ≤ 140737488355328; decide) (opL_roomy (by rw [HN.out]; exact hx2)) _ _ hlit)
      have H8 := Lib.hid ((H7.out.alloc s7 (.cells #[.int .i64 0, .int .i64 x.kind, .string ⟨#[]⟩, .slice none 0 0, .int .i64 2, .int .i64 0, .string ⟨#[]⟩, .slice A2 lv c2, .int .i64 0, .int .i64 x.arg, .string ⟨#[]⟩, .slice none 0 0, .int .i64 0, .int .i64 (x.num : Nat), .string ⟨#[]⟩, .slice none 0 0, .int .i64 0, .int .i64 x.rounds, .string ⟨#[]⟩, .slice none 0 0, .int .i64 0, .int .i64 x.test, .string ⟨#[]⟩, .slice none 0 0, .int .i64 0, .int .i64 (x.lim : Nat), .string ⟨#[]⟩, .slice none 0 0] 71)))
      have s8 := H8.out.size
      clear hlit HO7 H7
      refine seqI_step rfl ?_
      go_wp2_with (go_at_call 52; ((with_reducible refine CL2.out.mono ?_); rintro e W9 ⟨v9, rfl, HF9⟩))
      obtain ⟨A9, c9, rfl, _⟩ := HF9.1.form
      have T9 := H8.out.trans (HF9.2.mono s8)
      refine ⟨T9, ?_⟩
      have hlen9 : (opL x).length = 7 := rfl
      rw [hlen9] at HF9 ⊢
      have hbox : W9.heap[b + 1]? = _ := ((T9.mono hsz).block (b + 1) (by omega)).trans ((HB.out.block (b + 1) (by omega)).trans HR0.out)
      obtain ⟨⟨q0, q1, q2, q3⟩, z0, z1, z2, z3⟩ := box4_cells hbox
      have hfin := stored4 hbox (.int .i64 2) (.int .i64 0) (.string ⟨#[]⟩) (.slice A9 7 c9)
      have hz8 : W7.heap.size + 1 ≤ W9.heap.size := by have := HF9.2.size; rwa [World.size_alloc] at this
      have hW9 : Below w.heap.size w W9 := by rw [HBB.out]; exact HB0.out.trans ((HB.out.mono (by omega)).trans (T9.mono (by omega)))
      have hBf := set4_below hW9 (show w.heap.size ≤ b + 1 by rw [HBB.out]; omega) (.int .i64 2) (.int .i64 0) (.string ⟨#[]⟩) (.slice A9 7 c9)
      have hIf := HF9.1.keep (W' := ((((W9.setCell ⟨b + 1, 0, none⟩ (.int .i64 2)).setCell ⟨b + 1, 1, none⟩ (.int .i64 0)).setCell ⟨b + 1, 2, none⟩ (.string ⟨#[]⟩)).setCell ⟨b + 1, 3, none⟩ (.slice A9 7 c9)))
        (T := fun k => w.heap.size ≤ k ∧ k < ((((W9.setCell ⟨b + 1, 0, none⟩ (.int .i64 2)).setCell ⟨b + 1, 1, none⟩ (.int .i64 0)).setCell ⟨b + 1, 2, none⟩ (.string ⟨#[]⟩)).setCell ⟨b + 1, 3, none⟩ (.slice A9 7 c9)).heap.size)
        (fun k hk => set4_other (by have h1 := hk.1; rw [World.size_alloc] at h1; have := H8.out.size; have h3 := s7; omega) _ _ _ _)
        (fun k hk => by
          have h1 := hk.1
          rw [World.size_alloc] at h1
          rw [set4_size]
          exact ⟨by rw [HBB.out]; omega, hk.2⟩)
      have HFIN := Lib.hid hfin
      have HBF := Lib.hid hBf
      have HIF := Lib.hid hIf
      clear hbox hfin hBf hIf HF9 T9 hW9 H8 CL2 hlen9
      refine seqI_last rfl ?_
      go_wp2_with fail
      refine NoPanic.normal ?_
      go_wp2_with fail
      have hfin := HFIN.out
      have hBf := HBF.out
      have hIf := HIF.out
      clear HFIN HBF HIF
      generalize ((((W9.setCell ⟨b + 1, 0, none⟩ (.int .i64 2)).setCell ⟨b + 1, 1, none⟩ (.int .i64 0)).setCell ⟨b + 1, 2, none⟩ (.string ⟨#[]⟩)).setCell ⟨b + 1, 3, none⟩ (.slice A9 7 c9)) = W at hfin hBf hIf ⊢
      obtain ⟨⟨p0, p1, p2, p3⟩, _⟩ := box4_cells hfin
      exact bodyPost_ret (v := .agg #[.int .i64 2, .int .i64 0, .string ⟨#[]⟩, .slice A9 7 c9]) (by simp [results, Try.results51, go_sem, p0, p1, p2, p3]) rfl ⟨_, rfl, hIf, hBf⟩

end Go.Proofs.Ytffehnojcajhiaa.Wire.Entry

namespace Go.Proofs.Ytffehnojcajhiaa.Wire.Entry
open Go Go.RowKit Go.Proofs.Ytffehnojcajhiaa.Law

theorem opsL_get {l : List Opr} {k : Nat} {y : Opr} (h : l[k]? = some y) : opsL (l.take (k + 1)) = opsL (l.take k) ++ [opI y] := by
  have hk : k < l.length := (List.getElem?_eq_some_iff.1 h).1
  rw [List.take_succ_eq_append_getElem hk]
  rw [List.getElem?_eq_getElem hk, Option.some.injEq] at h
  rw [h]
  simp [opsL]

/-- An item whose list is new is put behind a growing list. -/
theorem grow_item {lo : Nat} {w W : World} {v u : Value} {l m : List Item} (h : Grow lo w.heap.size w v l) (hlo : lo ≤ w.heap.size) (hF : Fresh w W u m) (ty : TypeId) (hroom : (l.length + 1) * 56 ≤ 140737488355328) :
    ∃ v' W', (Builtin.append_ #[51, 51] ty #[v, .slice (some ⟨W.heap.size, 0, none⟩) 1 1]).run Try.prog (W.alloc (.cells #[.int .i64 2, .int .i64 0, .string ⟨#[]⟩, u] 71)) = .ok v' W' ∧ Grow lo W'.heap.size W' v' (l ++ [iL m]) ∧ Below lo w W' := by
  have hown : ∀ k, v.ownBlock = some k → k < w.heap.size := h.2.1
  have hG := h.below hF.2
  have hs := hF.2.size
  obtain ⟨v', W', h1, h2, h3, _⟩ := hG.append (by omega) (iL m) u (hF.1.mono (fun b hb => ⟨by omega, hb.2, fun e => by have := hown b e; omega⟩)) ty hroom
  obtain ⟨_, _, val, h5, _⟩ := hG
  exact ⟨v', W', h1, h2, (hF.2.mono hlo).trans ((Below.refl _ _).grown h3 (by omega) (fun k hk => (h5.1.lt k hk).1))⟩

set_option maxRecDepth 100000 in
set_option maxHeartbeats 4000000 in
theorem graphItem_calls (l : List Opr) (hw : ∀ x ∈ l, x.wf) (hg : goodOps l) (u : Value) (w : World) (h : OldO w.heap.size w u l) : Calls Try.prog 34 #[.agg #[u]] w (RetList w (opsL l)) := by
  obtain ⟨A, cap, rfl, hcap⟩ := h.form
  obtain ⟨n, hn⟩ : ∃ n, l.length = n := ⟨_, rfl⟩
  have h16 : n ≤ 16 := by rw [← hn]; exact hg.1
  rw [hn] at h hcap ⊢
  obtain ⟨b, hb⟩ : ∃ b, w.heap.size = b := ⟨_, rfl⟩
  have hB0 : Below w.heap.size w ((w.alloc (.cells #[.slice A n cap] 27)).alloc (.cells #[.int .i64 0, .int .i64 0, .string ⟨#[]⟩, .slice none 0 0] 71)) :=
    ((Below.refl _ _).alloc (Nat.le_refl _) _).alloc (by simp) _
  have hR0 : ((w.alloc (.cells #[.slice A n cap] 27)).alloc (.cells #[.int .i64 0, .int .i64 0, .string ⟨#[]⟩, .slice none 0 0] 71)).heap[b + 1]? = some (.cells #[.int .i64 0, .int .i64 0, .string ⟨#[]⟩, .slice none 0 0] 71) := by
    have := heap_alloc_new (w.alloc (.cells #[.slice A n cap] 27)) (.cells #[.int .i64 0, .int .i64 0, .string ⟨#[]⟩, .slice none 0 0] 71)
    rwa [World.size_alloc, hb] at this
  have hS0 : ((w.alloc (.cells #[.slice A n cap] 27)).alloc (.cells #[.int .i64 0, .int .i64 0, .string ⟨#[]⟩, .slice none 0 0] 71)).heap.size = b + 2 := by simp [hb]
  have HB0 := Lib.hid hB0
  have HR0 := Lib.hid hR0
  have HS0 := Lib.hid hS0
  have HI := Lib.hid h
  have HN := Lib.hid hn
  have HBB := Lib.hid hb
  have HW := Lib.hid hw
  have HG2 := Lib.hid hg.2
  clear hB0 hR0 hS0 h hn hw hg
  go_enter Try.func34, Try.ntmps34
  go_wp2_with fail
  have hB0 := HB0.out
  have hR0 := HR0.out
  have hS0 := HS0.out
  clear HB0 HR0 HS0
  generalize ((w.alloc (.cells #[.slice A n cap] 27)).alloc (.cells #[.int .i64 0, .int .i64 0, .string ⟨#[]⟩, .slice none 0 0] 71)) = w0 at hB0 hR0 hS0 ⊢
  rw [hb] at hB0
  have HB0 := Lib.hid hB0
  have HR0 := Lib.hid hR0
  have HS0 := Lib.hid hS0
  clear hB0 hR0 hS0 hb
  go_loopw [3, 9] (fun v i wr => ∃ k : Nat, i = .int .i64 k ∧ k ≤ n ∧ (∃ B l c, v = .slice B l c) ∧ Grow (b + 2) wr.heap.size wr v (opsL (l.take k)) ∧ Below (b + 2) w0 wr) (fun _ i _ => n - (intOf i).toNat)
  case atStart => exact ⟨0, rfl, Nat.zero_le _, ⟨_, _, _, rfl⟩, Grow.nil _ _ _ (Nat.le_refl _), Below.refl _ _⟩
  case round =>
    obtain ⟨k, rfl, hk, ⟨Bv, lv, cv, rfl⟩, hG, hB⟩ := hrel
    have hsz : b + 2 ≤ wr.heap.size := by have := hB.size; rw [HS0.out] at this; exact this
    have HG := Lib.hid hG
    have HB := Lib.hid hB
    clear hG hB
    by_cases hlt : k < n
    · obtain ⟨y, hy⟩ : ∃ y, l[k]? = some y := ⟨_, List.getElem?_eq_getElem (by rw [HN.out]; exact hlt)⟩
      have hym := List.mem_of_getElem? hy
      have hII := OpsAt.low ((HBB.out ▸ HB0.out : Below w.heap.size w w0).trans (HB.out.mono (by rw [HBB.out]; omega))) HI.out
      obtain ⟨ib, io, rfl, _, hcell⟩ := hII.at (by omega)
      obtain ⟨uy, ⟨c0, c1, c2, c3, c4, c5, c6⟩, hiy⟩ := hcell k y hy
      obtain ⟨Ay, cy, rfl, _⟩ := hiy.form
      have hO : OldI (wr.alloc (.cells #[.int .i64 y.kind, .slice Ay y.ins.length cy, .int .i64 y.arg, .int .u32 (y.num : Nat), .int .i64 y.rounds, .int .i64 y.test, .int .u32 (y.lim : Nat)] 47)).heap.size (wr.alloc (.cells #[.int .i64 y.kind, .slice Ay y.ins.length cy, .int .i64 y.arg, .int .u32 (y.num : Nat), .int .i64 y.rounds, .int .i64 y.test, .int .u32 (y.lim : Nat)] 47)) (.slice Ay y.ins.length cy) y.ins :=
        (IntsAt.low ((Below.refl _ _).alloc (by rw [HBB.out]; omega) _) hiy).mono (fun _ hb => by rw [HBB.out] at hb; simp; omega)
      have hyw := HW.out y hym
      have CO := Lib.hid (opItem_calls y hyw.2.2.2.1 hyw.2.2.2.2.2.2.1 (HG2.out y hym) _ _ hO)
      obtain ⟨ly, hly⟩ : ∃ ly, y.ins.length = ly := ⟨_, rfl⟩
      rw [hly] at c1 CO
      have HY := Lib.hid hy
      clear hcell hy hII hiy hO hyw hym hly
      go_wp2_with fail
      refine CO.out.mono ?_
      rintro e w2 ⟨v2, rfl, hF⟩
      obtain ⟨A2, cc2, rfl, _⟩ := hF.1.form
      have hlen : (opsL (l.take k)).length ≤ 16 := by rw [opsL_length, List.length_take]; omega
      have hG1 := HG.out.below ((Below.refl wr.heap.size wr).alloc (Nat.le_refl _) (.cells #[.int .i64 y.kind, .slice Ay ly cy, .int .i64 y.arg, .int .u32 (y.num : Nat), .int .i64 y.rounds, .int .i64 y.test, .int .u32 (y.lim : Nat)] 47))
      obtain ⟨v', W', hrun, hG3, hB3⟩ := grow_item hG1 (by simp; omega) hF 51 (by omega)
      have HR := Lib.hid hrun
      rw [show iL (opL y) = opI y from rfl, ← opsL_get HY.out] at hG3
      obtain ⟨B3, c3', hv3, _⟩ := hG3.form
      obtain ⟨l3, hl3⟩ : ∃ l3, (opsL (l.take (k + 1))).length = l3 := ⟨_, rfl⟩
      rw [hl3] at hv3
      subst hv3
      have HG3 := Lib.hid hG3
      have HB3 := Lib.hid (HB.out.trans (((Below.refl _ _).alloc hsz _).trans hB3))
      clear hF hG1 hrun hG3 hB3 HG HB hl3 CO
      go_wp2_with (at_builtin; refine wpList_append_ran rfl _ _ _ rfl rfl rfl HR.out ?_)
      go_roundw
      case rel => exact ⟨k + 1, by go_num, by omega, ⟨_, _, _, rfl⟩, HG3.out, HB3.out⟩
      case measure => simp [intOf]; omega
    · obtain rfl : k = n := by omega
      have hG := HG.out
      rw [List.take_of_length_le (by rw [HN.out]; exact Nat.le_refl _)] at hG
      have hL : Old wr.heap.size wr (.slice Bv lv cv) (opsL l) := hG.items.mono (fun _ h => h.2)
      have CL := Lib.hid (list_calls (opsL l) (by rw [opsL_length, HN.out]; omega) (opsL_roomy HG2.out) _ wr hL)
      have hlo : (opsL l).length = k := by rw [opsL_length, HN.out]
      clear HG hG hL
      go_wp2_with fail
      refine CL.out.mono ?_
      rintro e W9 ⟨v9, rfl, HF9⟩
      obtain ⟨A9, c9, rfl, _⟩ := HF9.1.form
      rw [hlo] at HF9 ⊢
      have T9 := HF9.2
      have hbox : W9.heap[b + 1]? = _ := ((T9.mono hsz).block (b + 1) (by omega)).trans ((HB.out.block (b + 1) (by omega)).trans HR0.out)
      obtain ⟨⟨q0, q1, q2, q3⟩, z0, z1, z2, z3⟩ := box4_cells hbox
      have hfin := stored4 hbox (.int .i64 2) (.int .i64 0) (.string ⟨#[]⟩) (.slice A9 k c9)
      have hW9 : Below w.heap.size w W9 := by rw [HBB.out]; exact HB0.out.trans ((HB.out.mono (by omega)).trans (T9.mono (by omega)))
      have hBf := set4_below hW9 (show w.heap.size ≤ b + 1 by rw [HBB.out]; omega) (.int .i64 2) (.int .i64 0) (.string ⟨#[]⟩) (.slice A9 k c9)
      have hIf := HF9.1.keep (W' := ((((W9.setCell ⟨b + 1, 0, none⟩ (.int .i64 2)).setCell ⟨b + 1, 1, none⟩ (.int .i64 0)).setCell ⟨b + 1, 2, none⟩ (.string ⟨#[]⟩)).setCell ⟨b + 1, 3, none⟩ (.slice A9 k c9)))
        (T := fun j => w.heap.size ≤ j ∧ j < ((((W9.setCell ⟨b + 1, 0, none⟩ (.int .i64 2)).setCell ⟨b + 1, 1, none⟩ (.int .i64 0)).setCell ⟨b + 1, 2, none⟩ (.string ⟨#[]⟩)).setCell ⟨b + 1, 3, none⟩ (.slice A9 k c9)).heap.size)
        (fun j hj => set4_other (by have h1 := hj.1; omega) _ _ _ _)
        (fun j hj => by
          have h1 := hj.1
          rw [set4_size]
          exact ⟨by rw [HBB.out]; omega, hj.2⟩)
      have HFIN := Lib.hid hfin
      have HBF := Lib.hid hBf
      have HIF := Lib.hid hIf
      clear hbox hfin hBf hIf HF9 T9 hW9 CL hlo
      go_wp2_with fail
      have hfin := HFIN.out
      have hBf := HBF.out
      have hIf := HIF.out
      clear HFIN HBF HIF
      generalize ((((W9.setCell ⟨b + 1, 0, none⟩ (.int .i64 2)).setCell ⟨b + 1, 1, none⟩ (.int .i64 0)).setCell ⟨b + 1, 2, none⟩ (.string ⟨#[]⟩)).setCell ⟨b + 1, 3, none⟩ (.slice A9 k c9)) = W at hfin hBf hIf ⊢
      obtain ⟨⟨p0, p1, p2, p3⟩, _⟩ := box4_cells hfin
      exact bodyPost_ret (v := .agg #[.int .i64 2, .int .i64 0, .string ⟨#[]⟩, .slice A9 k c9]) (by simp [results, Try.results34, go_sem, p0, p1, p2, p3]) rfl ⟨_, rfl, hIf, hBf⟩

end Go.Proofs.Ytffehnojcajhiaa.Wire.Entry
