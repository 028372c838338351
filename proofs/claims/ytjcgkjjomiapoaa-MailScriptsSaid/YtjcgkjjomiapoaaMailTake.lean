/-
  Contracts of mail's mail (a message handed out) and Take.
-/
import Derived.Test.YtjcgkjjomiapoaaMailDrop
import Derived.Lib.ConvBytes
import Derived.Lib.AppendStr
namespace Go.Proofs.Ytjcgkjjomiapoaa.Mail
open Go Go.RowKit Go.Proofs.Ytjcgkjjomiapoaa.Law

def bytesOf (s : ByteArray) : List Nat := s.data.toList.map UInt8.toNat
theorem bytesOf_length (s : ByteArray) : (bytesOf s).length = s.size := by unfold bytesOf; rw [List.length_map, Array.length_toList]; rfl
theorem bytesOf_lt (s : ByteArray) : ∀ x ∈ bytesOf s, x < 256 := by
  intro x hx
  simp only [bytesOf, List.mem_map] at hx
  obtain ⟨y, _, rfl⟩ := hx
  exact y.toNat_lt
theorem bytesOf_str {bs : List Nat} (h : ∀ x ∈ bs, x < 256) : bytesOf (str bs) = bs := by
  unfold bytesOf str
  rw [List.map_map]
  conv => rhs; rw [← List.map_id bs]
  apply List.map_congr_left
  intro x hx
  have := h x hx
  simp [Nat.mod_eq_of_lt this]
theorem str_bytesOf (s : ByteArray) : str (bytesOf s) = s := by
  unfold bytesOf str
  rw [List.map_map]
  have : (List.map (UInt8.ofNat ∘ UInt8.toNat) s.data.toList) = s.data.toList := by
    conv => rhs; rw [← List.map_id s.data.toList]
    apply List.map_congr_left
    intro x _
    simp
  rw [this]

/-- Bytes that a string was turned into: in a block of their own, whose mark stands behind its end. -/
def Given (W : World) (base : Nat) (v : Value) (bs : List Nat) : Prop :=
  (∀ x ∈ bs, x < 256) ∧ ∃ g cap cur, v = .slice (some ⟨g, 0, none⟩) bs.length cap ∧ base ≤ g ∧ W.heap[g]? = some (.cells cur 5 (cur.size, cur.size + 1)) ∧ bs.length ≤ cap ∧ cap ≤ maxLen ∧ cur.size = cap ∧ cur.toList.take bs.length = vals bs

theorem Given.own {W : World} {base : Nat} {v : Value} {bs : List Nat} (h : Given W base v bs) : ∃ g cap, v = .slice (some ⟨g, 0, none⟩) bs.length cap ∧ base ≤ g ∧ g < W.heap.size := by
  obtain ⟨_, g, cap, cur, hv, hb, hg, _⟩ := h
  exact ⟨g, cap, hv, hb, lt_of_at hg⟩
theorem Given.below {W W' : World} {base : Nat} {v : Value} {bs : List Nat} (h : Given W base v bs) (hB : Below W.heap.size W W') : Given W' base v bs := by
  obtain ⟨h0, g, cap, cur, hv, hb, hg, h1⟩ := h
  exact ⟨h0, g, cap, cur, hv, hb, (hB.block g (lt_of_at hg)).trans hg, h1⟩
theorem Given.frm {S : TypeId → Bool} {B : Nat} {W W' : World} {base : Nat} {v : Value} {bs : List Nat} (h : Given W base v bs) (hF : Frm S B W W') (hS : S 5 = false) : Given W' base v bs := by
  obtain ⟨h0, g, cap, cur, hv, hb, hg, h1⟩ := h
  exact ⟨h0, g, cap, cur, hv, hb, hF.2 g _ _ _ hg hS, h1⟩
theorem Given.lower {W : World} {base b' : Nat} {v : Value} {bs : List Nat} (h : Given W base v bs) (hb' : b' ≤ base) : Given W b' v bs := by
  obtain ⟨h0, g, cap, cur, hv, hb, hg, h1⟩ := h
  exact ⟨h0, g, cap, cur, hv, by omega, hg, h1⟩
theorem Given.bytes {W : World} {base : Nat} {v : Value} {bs : List Nat} (h : Given W base v bs) : Bytes W.heap.size W v bs := by
  obtain ⟨h0, g, cap, cur, hv, hb, hg, h1, h2, h3, h4⟩ := h
  refine ⟨_, cap, hv, h1, (fun h => by cases h), h0, fun _ => ⟨g, 0, rfl, lt_of_at hg, fun j hj => ?_⟩⟩
  have h5 : cur.toList[j]? = some (.int .u8 (bs.getD j 0 : Nat)) := by
    rw [← vals_get bs j hj, ← h4, List.getElem?_take, if_pos hj]
  simp only [World.cell?, hg, Nat.zero_add]
  rw [← Array.getElem?_toList]
  simpa using h5

theorem given_new (w : World) (s : ByteArray) (hs : s.size ≤ maxLen) : Given (Lib.bytesWorld w 5 s) w.heap.size (.slice (some ⟨w.heap.size, 0, none⟩) s.size (grownCap w s.size 0 5)) (bytesOf s) := by
  have hge := grownCap_ge w s.size 0 5
  have hsz : (Lib.bytesCells w 5 s).size = grownCap w s.size 0 5 := by
    unfold Lib.bytesCells
    rw [Array.size_append, Array.size_map, Array.size_replicate]
    show s.size + _ = _
    omega
  refine ⟨bytesOf_lt s, w.heap.size, _, Lib.bytesCells w 5 s, by rw [bytesOf_length], Nat.le_refl _, Lib.bytesWorld_at_new w _ s, by rw [bytesOf_length]; exact hge, grownCap_le_maxLen w s.size 0 _ hs, hsz, ?_⟩
  unfold Lib.bytesCells
  rw [bytesOf_length, Array.toList_append, Array.toList_map]
  have hl : (s.data.toList.map fun b => Value.int .u8 (b.toNat : Int)).length = s.size := by rw [List.length_map, Array.length_toList]; rfl
  rw [← hl, List.take_left]
  unfold vals bytesOf
  rw [List.map_map]; rfl
theorem bytesWorld_below (w : World) (e : TypeId) (s : ByteArray) : Below w.heap.size w (Lib.bytesWorld w e s) :=
  ⟨rfl, rfl, rfl, by rw [Lib.bytesWorld_size]; omega, fun k hk => Lib.bytesWorld_at_old w e s k hk⟩

/-- An operation whose run is known and that yields a value, as a step of the walk. -/
theorem wpList_exec_ran {P : Program} {ops : Array Oper} {rest : List Oper} {o : Oper} {a : Act} {w w' : World} {Q : Exit → Act → World → Prop} (hgd : Region.wanted o (yielded ops a.tmps) = true) {v : Value}
    (hrun : (execOp a.eval o).run P w = .ok (.value v) w') (h : wpList P ops Q rest (a.put o.dst v) w') : wpList P ops Q (o :: rest) a w := by
  refine wpList_step fun K hK => ?_
  rw [if_pos hgd]
  unfold Oper.wp
  rw [hrun]
  exact hK _ _ h
theorem run_conv {P : Program} {ρ : Operand → Value} {o : Oper} {w w' : World} {src dst : TypeId} {x : Operand} {xv v : Value} (hrun : (convert src dst xv).run P w = .ok v w') (ho : o.op = .convert src dst x := by rfl) (hx : ρ x = xv := by rfl) : (execOp ρ o).run P w = .ok (.value v) w' := by
  unfold execOp
  simp only [ho, hx, Sem.run_bind, Sem.run_pure, hrun, Result.andThen_ok]

/-- A message handed out. -/
def Handed (w : World) (m : Msg) (e : Ending) (W : World) : Prop := ∃ v, e = .returned (mailV m.src m.dst v) ∧ Given W w.heap.size v (bytesOf m.s) ∧ Below w.heap.size w W

set_option maxRecDepth 100000 in
set_option maxHeartbeats 2000000 in
theorem mail_calls (m : Msg) (hs : m.s.size ≤ 65536) (w : World) : Calls Try.prog 31 #[msgV m] w (Handed w m) := by
  obtain ⟨S, D, T⟩ := m
  simp only at hs
  obtain ⟨w0, hw0⟩ : ∃ w0, (w.alloc (.cells #[.int .i64 S, .int .i64 D, .string T] 68)).alloc (.cells #[.int .i64 0, .int .i64 0, .slice none 0 0] 34) = w0 := ⟨_, rfl⟩
  have hb0 : Below w.heap.size w w0 := by rw [← hw0]; exact (((Below.refl _ _).alloc (Nat.le_refl _) _).alloc (by simp) _)
  have hcv := Lib.run_convert_string_bytes (P := Try.prog) w0 9 32 5 T Try.underlying9 Try.underlying32 Try.underlying5
  have hb1 := bytesWorld_below w0 5 T
  have hG := given_new w0 T (by simp only [maxLen]; omega)
  have hsz : w0.heap.size = w.heap.size + 2 := by rw [← hw0]; simp
  obtain ⟨cap, hcap⟩ : ∃ cap, grownCap w0 T.size 0 5 = cap := ⟨_, rfl⟩
  rw [hcap] at hcv hG
  obtain ⟨W1, hW1⟩ : ∃ W1, Lib.bytesWorld w0 5 T = W1 := ⟨_, rfl⟩
  rw [hW1] at hcv hb1 hG
  have hres : W1.heap[w.heap.size + 1]? = some (.cells #[.int .i64 0, .int .i64 0, .slice none 0 0] 34 (0, 0)) := by
    rw [hb1.block _ (by omega), ← hw0]
    have := heap_alloc_new (w.alloc (.cells #[.int .i64 S, .int .i64 D, .string T] 68)) (.cells #[.int .i64 0, .int .i64 0, .slice none 0 0] 34)
    rw [World.size_alloc] at this
    exact this
  have r0 : W1.cell? ⟨w.heap.size + 1, 0, none⟩ = some (.int .i64 0) := by simp [World.cell?, hres]
  have r1 : W1.cell? ⟨w.heap.size + 1, 1, none⟩ = some (.int .i64 0) := by simp [World.cell?, hres]
  have r2 : W1.cell? ⟨w.heap.size + 1, 2, none⟩ = some (.slice none 0 0) := by simp [World.cell?, hres]
  have z0 : W1.frozen? ⟨w.heap.size + 1, 0, none⟩ = false := by simp [World.frozen?, hres]
  have z1 : W1.frozen? ⟨w.heap.size + 1, 1, none⟩ = false := by simp [World.frozen?, hres]
  have z2 : W1.frozen? ⟨w.heap.size + 1, 2, none⟩ = false := by simp [World.frozen?, hres]
  rw [hsz] at hcv hG
  have hfin : Handed w ⟨S, D, T⟩ (.returned (mailV S D (.slice (some ⟨w.heap.size + 2, 0, none⟩) T.size cap))) (((W1.setCell ⟨w.heap.size + 1, 0, none⟩ (.int .i64 S)).setCell ⟨w.heap.size + 1, 1, none⟩ (.int .i64 D)).setCell ⟨w.heap.size + 1, 2, none⟩ (.slice (some ⟨w.heap.size + 2, 0, none⟩) T.size cap)) := by
    refine ⟨_, rfl, ?_, (((hb0.trans (hb1.mono (by omega))).setCell (by simp) _).setCell (by simp) _).setCell (by simp) _⟩
    obtain ⟨h0, g, c, cur, hv, hb, hg, h1⟩ := hG
    simp only [Value.slice.injEq, Option.some.injEq, Addr.mk.injEq, and_true] at hv
    obtain ⟨rfl, h2, rfl⟩ := hv
    refine ⟨h0, w.heap.size + 2, cap, cur, by rw [bytesOf_length], by omega, ?_, h1⟩
    rw [Below.heap_setCell _ _ _ _ (by simp), Below.heap_setCell _ _ _ _ (by simp), Below.heap_setCell _ _ _ _ (by simp)]
    exact hg
  rw [← hw0] at hcv
  have HCV := Lib.hid hcv
  have HFIN := Lib.hid hfin
  clear hcv hfin hG hb0 hb1 hw0 hsz hcap hW1 hres
  go_enter Try.func31, Try.ntmps31
  go_wp2_with (refine wpList_exec_ran (o := ⟨some 9, _, _, _, _, _⟩) rfl (run_conv (HCV.out)) ?_)
  refine bodyPost_ret (v := mailV S D (.slice (some ⟨w.heap.size + 2, 0, none⟩) T.size cap)) (by simp [results, Try.results31, go_sem, r0, r1, r2]) rfl HFIN.out

theorem grown_none {W W' : World} (h : Below W.heap.size W W') : W.grownBy W' none := ⟨h.os, h.tape, h.output, h.size, fun k hk _ => h.block k hk⟩

def Taken (w : World) (base p : Nat) (nodes : Int) (ms : List Msg) (m : Msg) (e : Ending) (W : World) : Prop :=
  ∃ v, e = .returned (.tuple #[mailV m.src m.dst v, .int .i64 0]) ∧ Given W w.heap.size v (bytesOf m.s) ∧ Post W base p nodes ms ∧ Frm isPost base w W ∧ KeepsOthers w W
def TakeNone (w : World) (k : Int) (e : Ending) (W : World) : Prop := e = .returned (.tuple #[mailV 0 0 (.slice none 0 0), .int .i64 k]) ∧ Below w.heap.size w W

/-- A block of three. -/
def Three (W : World) (b : Nat) (x y z : Value) (t : TypeId) : Prop := W.heap[b]? = some (.cells #[x, y, z] t (0, 0))
theorem Three.cells {W : World} {b : Nat} {x y z : Value} {t : TypeId} (h : Three W b x y z t) :
    W.cell? ⟨b, 0, none⟩ = some x ∧ W.cell? ⟨b, 1, none⟩ = some y ∧ W.cell? ⟨b, 2, none⟩ = some z ∧ W.frozen? ⟨b, 0, none⟩ = false ∧ W.frozen? ⟨b, 1, none⟩ = false ∧ W.frozen? ⟨b, 2, none⟩ = false := by
  unfold Three at h
  refine ⟨?_, ?_, ?_, ?_, ?_, ?_⟩ <;> simp [World.cell?, World.frozen?, h]
theorem Three.at {W W' : World} {b : Nat} {x y z : Value} {t : TypeId} (h : Three W b x y z t) (hb : W'.heap[b]? = W.heap[b]?) : Three W' b x y z t := hb.trans h

set_option maxRecDepth 100000 in
set_option maxHeartbeats 2000000 in
theorem take_none (base p : Nat) (nodes : Int) (ms : List Msg) (w : World) (h : Post w base p nodes ms) (i : Int) (hi : i < 0 ∨ (ms.length : Nat) ≤ i) :
    Calls Try.prog 11 #[.pointer (some ⟨p, 0, none⟩), .int .i64 i] w (TakeNone w 7) := by
  have hB := Lib.hid ((Below.refl w.heap.size w).alloc (Nat.le_refl _) (.cells #[.int .i64 0, .int .i64 0, .slice none 0 0] 34))
  have CR := Lib.hid (refusal_none base p nodes ms i _ (h.below hB.out) hi)
  clear h hi
  go_enter Try.func11, Try.ntmps11
  go_wp2_with fail
  refine CR.out.mono ?_
  rintro e W ⟨rfl, rfl⟩
  go_wp2_with fail
  refine bodyPost_ret (v := .tuple #[mailV 0 0 (.slice none 0 0), .int .i64 7]) (by simp [results, Try.results11, go_sem]) rfl ⟨rfl, ?_⟩
  exact hB.out
set_option maxRecDepth 100000 in
set_option maxHeartbeats 2000000 in
theorem take_nil (i : Int) (w : World) :
    Calls Try.prog 11 #[.pointer none, .int .i64 i] w (TakeNone w 9) := by
  have hB := Lib.hid ((Below.refl w.heap.size w).alloc (Nat.le_refl _) (.cells #[.int .i64 0, .int .i64 0, .slice none 0 0] 34))
  have CR := Lib.hid (refusal_nil i (w.alloc (.cells #[.int .i64 0, .int .i64 0, .slice none 0 0] 34)))
  go_enter Try.func11, Try.ntmps11
  go_wp2_with fail
  refine CR.out.mono ?_
  rintro e W ⟨rfl, rfl⟩
  go_wp2_with fail
  refine bodyPost_ret (v := .tuple #[mailV 0 0 (.slice none 0 0), .int .i64 9]) (by simp [results, Try.results11, go_sem]) rfl ⟨rfl, ?_⟩
  exact hB.out

set_option maxRecDepth 100000 in
set_option maxHeartbeats 4000000 in
theorem take_calls (base p : Nat) (nodes : Int) (ms : List Msg) (w : World) (h : Post w base p nodes ms) (hbase : base ≤ w.heap.size) (i : Nat) (m : Msg) (hm : ms[i]? = some m) (hs : m.s.size ≤ 65536) :
    Calls Try.prog 11 #[.pointer (some ⟨p, 0, none⟩), .int .i64 (i : Nat)] w (Taken w base p nodes (ms.take i ++ ms.drop (i + 1)) m) := by
  have hil : i < ms.length := (List.getElem?_eq_some_iff.1 hm).1
  obtain ⟨ms', hms'⟩ : ∃ ms', ms.take i ++ ms.drop (i + 1) = ms' := ⟨_, rfl⟩
  obtain ⟨w1, hw1⟩ : ∃ w1, w.alloc (.cells #[.int .i64 0, .int .i64 0, .slice none 0 0] 34) = w1 := ⟨_, rfl⟩
  have hB1 : Below w.heap.size w w1 := by rw [← hw1]; exact (Below.refl _ _).alloc (Nat.le_refl _) _
  have hs1 : w1.heap.size = w.heap.size + 1 := by rw [← hw1]; simp
  have hp1 := h.below hB1
  have hr1 : Three w1 w.heap.size (.int .i64 0) (.int .i64 0) (.slice none 0 0) 34 := by rw [← hw1]; exact heap_alloc_new w _
  have CR := Lib.hid (refusal_no base p nodes ms (i : Nat) w1 hp1 (by omega) (by omega))
  have CM := Lib.hid (mail_calls m hs)
  obtain ⟨S, D, T⟩ := m
  obtain ⟨w2, hw2⟩ : ∃ w2, w1.alloc (.cells #[.int .i64 S, .int .i64 D, .string T] 68) = w2 := ⟨_, rfl⟩
  have hB2 : Below w1.heap.size w1 w2 := by rw [← hw2]; exact (Below.refl _ _).alloc (Nat.le_refl _) _
  have hs2 : w2.heap.size = w.heap.size + 2 := by rw [← hw2]; simp [hs1]
  have hp2 := hp1.below hB2
  have hb2 : Three w2 (w.heap.size + 1) (.int .i64 S) (.int .i64 D) (.string T) 68 := by rw [← hw2, ← hs1]; exact heap_alloc_new w1 _
  have hr2 : Three w2 w.heap.size (.int .i64 0) (.int .i64 0) (.slice none 0 0) 34 := hr1.at (hB2.block _ (by omega))
  have hF2 : Frm isPost base w w2 := (Frm.of_below hB1 hbase).trans (Frm.of_below hB2 (by omega))
  have hdrop := drop_calls base p nodes ms w2 hp2 (by omega) i hil w.heap.size (by obtain ⟨_, rv, h1, _⟩ := h; exact h1.lt) (by
    obtain ⟨_, rv, h1, hO⟩ := h
    intro rv' h' g hg
    have h3 : PB w2 p nodes rv := (hB2.block p (by have := h1.lt; omega)).trans ((hB1.block p h1.lt).trans h1)
    unfold PB at h' h3
    rw [h'] at h3
    simp only [Option.some.injEq, Obj.cells.injEq, and_true] at h3
    have e : rv' = rv := by simpa using h3
    subst e
    exact (hO.own g hg).2.1)
  rw [hms'] at hdrop ⊢
  rw [← hw1] at CR hw2
  rw [← hw2] at hdrop
  have CD := Lib.hid hdrop
  obtain ⟨hbp, rv, h1, hO⟩ := h
  obtain ⟨R, rc, rfl, _⟩ := hO.form
  obtain ⟨n, hn⟩ : ∃ n, ms.length = n := ⟨_, rfl⟩
  rw [hn] at h1 hO hil
  obtain ⟨g, o, cur, rfl, hbg, hg, hnc, hcm, hfit, _⟩ := hO.at (by omega)
  obtain ⟨e0, e1, e2⟩ := seg_msg hO hm
  simp only at e0 e1 e2 hs
  obtain ⟨c0, c1, c2⟩ := h1.cells
  have hp := h1.lt
  have hglt : g < w.heap.size := (Array.getElem?_eq_some_iff.1 hg).1
  have HW1 := Lib.hid hw1
  have HW2 := Lib.hid hw2
  have HR2 := Lib.hid hr2
  have HB2 := Lib.hid hb2
  have HF2 := Lib.hid hF2
  have HKO2 : Hid (KeepsOthers w w2) := (KeepsOthers.of_grownBy (grown_none hB1) (fun _ _ e => by cases e)).trans (KeepsOthers.of_grownBy (grown_none hB2) (fun _ _ e => by cases e))
  have HS2 := Lib.hid hs2
  clear hw1 hw2 hr2 hb2 hF2 hr1 hp1 hp2 hB1 hB2 hs1 hs2 h1 hO hn hg hm hdrop hms' c2
  go_enter Try.func11, Try.ntmps11
  go_wp2_with fail
  refine CR.out.mono ?_
  rintro e W ⟨rfl, rfl⟩
  go_wp2_with fail
  refine CD.out.mono ?_
  rintro e W ⟨rfl, hP3, hF3, hk3, hko3⟩
  rw [HW2.out] at hF3 hk3 hko3
  have HKO3 := Lib.hid hko3
  clear hko3
  have hb3 := HB2.out.at (hk3 (w.heap.size + 1) (by omega) (by have := HS2.out; omega))
  have hr3 := HR2.out.at (hk3 w.heap.size (by omega) (by have := HS2.out; omega))
  have hF := HF2.out.trans hF3
  obtain ⟨q0, q1, q2, _⟩ := hb3.cells
  have HP3 := Lib.hid hP3
  have HF := Lib.hid hF
  have HR3 := Lib.hid hr3
  have hs3 : w.heap.size + 2 ≤ W.heap.size := by have := hF3.size; have := HS2.out; omega
  clear hP3 hF3 hk3 hb3 hr3 hF
  go_wp2_with fail
  refine (CM.out W).mono ?_
  rintro e W4 ⟨v, rfl, hG, hB4⟩
  have hr4 := HR3.out.at (hB4.block w.heap.size (by omega))
  obtain ⟨r0, r1, r2, z0, z1, z2⟩ := hr4.cells
  have hP4 := HP3.out.below hB4
  have hs4 := hB4.size
  have hlt4 : w.heap.size < W4.heap.size := by omega
  have hFr : Frm isPost base w W4 := HF.out.trans (Frm.of_below hB4 (by omega))
  obtain ⟨gb, gc, rfl, hgb, _⟩ := hG.own
  have hfin : Taken w base p nodes ms' ⟨S, D, T⟩ (.returned (.tuple #[mailV S D (.slice (some ⟨gb, 0, none⟩) (bytesOf T).length gc), .int .i64 0])) (((W4.setCell ⟨w.heap.size, 0, none⟩ (.int .i64 S)).setCell ⟨w.heap.size, 1, none⟩ (.int .i64 D)).setCell ⟨w.heap.size, 2, none⟩ (.slice (some ⟨gb, 0, none⟩) (bytesOf T).length gc)) := by
    have hne : ∀ k, k ≠ w.heap.size → (((W4.setCell ⟨w.heap.size, 0, none⟩ (.int .i64 S)).setCell ⟨w.heap.size, 1, none⟩ (.int .i64 D)).setCell ⟨w.heap.size, 2, none⟩ (.slice (some ⟨gb, 0, none⟩) (bytesOf T).length gc)).heap[k]? = W4.heap[k]? := fun k hk => by
      rw [Below.heap_setCell _ _ _ _ hk, Below.heap_setCell _ _ _ _ hk, Below.heap_setCell _ _ _ _ hk]
    refine ⟨_, rfl, ?_, ?_, ?_, ((HKO2.out.trans HKO3.out).trans (KeepsOthers.of_grownBy (grown_none hB4) (fun _ _ e => by cases e))).trans (((KeepsOthers.setCell _ _ _).trans (KeepsOthers.setCell _ _ _)).trans (KeepsOthers.setCell _ _ _))⟩
    · obtain ⟨h0, g', c, cur', hv, hb, hg', h1⟩ := hG
      simp only [Value.slice.injEq, Option.some.injEq, Addr.mk.injEq, and_true, true_and] at hv
      obtain ⟨rfl, rfl⟩ := hv
      exact ⟨h0, gb, gc, cur', rfl, by omega, (hne gb (by omega)).trans hg', h1⟩
    · obtain ⟨hb, rv, h1, hO⟩ := hP4
      refine ⟨hb, rv, (hne p (by omega)).trans h1, hO.keep fun k hk => hne k ?_⟩
      rintro rfl
      obtain ⟨_, _, cur', hc'⟩ := hO.own _ hk
      have := hr4
      unfold Three at this
      rw [hc'] at this
      simp only [Option.some.injEq, Obj.cells.injEq] at this
      exact absurd this.2.1 (by decide)
    · have hb : ∀ (b : Nat), b < w.heap.size → (((W4.setCell ⟨w.heap.size, 0, none⟩ (.int .i64 S)).setCell ⟨w.heap.size, 1, none⟩ (.int .i64 D)).setCell ⟨w.heap.size, 2, none⟩ (.slice (some ⟨gb, 0, none⟩) (bytesOf T).length gc)).heap[b]? = W4.heap[b]? := fun b hb => hne b (by omega)
      refine ⟨((hFr.low.setCell hbase _).setCell hbase _).setCell hbase _, fun k cs t fr hk ht => ?_⟩
      rw [hne k (by have := lt_of_at hk; omega)]
      exact hFr.2 k cs t fr hk ht
  have HFIN := Lib.hid hfin
  clear hfin hG hB4 hP4 hFr hr4
  obtain ⟨L, hL⟩ : ∃ L, (bytesOf T).length = L := ⟨_, rfl⟩
  rw [hL] at HFIN ⊢
  clear hL
  go_wp2_with fail
  refine bodyPost_ret (v := .tuple #[mailV S D (.slice (some ⟨gb, 0, none⟩) L gc), .int .i64 0]) (by simp [results, Try.results11, go_sem, r0, r1, r2]) rfl HFIN.out

end Go.Proofs.Ytjcgkjjomiapoaa.Mail
