/-
  Contracts of the code's Good and of the document's Good.
-/
import Derived.Test.YtlcmnemneghohaaDedupRef
namespace Go.Proofs.Ytlcmnemneghohaa.Dedup
open Go Go.RowKit Go.Lib Go.Sort Go.Shelf Go.Proofs.Ytlcmnemneghohaa.Law

theorem cell_alloc {w : World} {a : Addr} {v : Value} (o : Obj) (h : w.cell? a = some v) : (w.alloc o).cell? a = some v := by
  rw [(alloc_low w o).cell (World.block_lt_of_cell? _ _ h)]; exact h

set_option maxRecDepth 1000000 in
set_option maxHeartbeats 4000000 in
theorem good_calls (l : List Rw) (hl : l.length ≤ 281474976710656) (v : Value) (w : World) (h : OldW w.heap.size w v l) :
    Calls Try.prog 8 #[v] w (RetB w (goodC l)) := by
  obtain ⟨g, hg⟩ : ∃ g, goodC l = g := ⟨_, rfl⟩
  rw [hg]
  obtain ⟨A, cap, rfl, _⟩ := h.form
  obtain ⟨n, hN⟩ : ∃ n, l.length = n := ⟨_, rfl⟩
  rw [hN] at h hl ⊢
  have HN := Lib.hid hN
  have HI := Lib.hid h
  have HG := Lib.hid hg
  have HO1 : Hid (∀ (x y : Rw) (W : World), Calls Try.prog 17 #[rwV x, rwV y] W (RetN W (ordI x.p x.q y.p y.q))) := Lib.hid fun x y W => (order_calls x y W).mono fun _ _ h => h.low
  have HO2 : Hid (∀ (p q : Int) (W : World), Calls Try.prog 18 #[.int .i64 p, .int .i64 q] W (RetBo (rightN p q) W)) := Lib.hid fun p q W => isOwner_calls p q W
  clear hN h hg
  go_enter Try.func8, Try.ntmps8
  go_wp2_with fail
  go_loopw [8] (fun i wr => ∃ k : Nat, i = .int .i64 k ∧ k ≤ n ∧ Hid ((∀ j, j < k → okC l j = true) ∧ Below w.heap.size w wr)) (fun i _ => n - (intOf i).toNat)
  case atStart => exact ⟨0, rfl, Nat.zero_le _, Lib.hid ⟨fun j hj => absurd hj (Nat.not_lt_zero _), Below.refl _ _⟩⟩
  case round =>
    obtain ⟨k, rfl, hk, HO⟩ := hrel
    by_cases hlt : k < n
    · obtain ⟨x, hx⟩ : ∃ x, l[k]? = some x := ⟨_, List.getElem?_eq_getElem (by rw [HN.out]; exact hlt)⟩
      obtain ⟨hK, hB⟩ := HO.out
      have HLE : Hid (k + 1 ≤ n) := Lib.hid hlt
      have hbad : okC l k = false → Hid (g = false) := fun hf => Lib.hid (by
        rw [← HG.out]
        exact good_false (by rw [HN.out]; exact hlt) hf)
      have hgo : okC l k = true → Hid (∀ j, j < k + 1 → okC l j = true) := fun hf => Lib.hid fun j hj => by
        rcases Nat.lt_or_ge j k with h1 | h1
        · exact hK j h1
        · obtain rfl : j = k := by omega
          exact hf
      obtain ⟨b, off, rfl, hb, hc⟩ := (ThreeAt.low hB HI.out).at (by omega)
      obtain ⟨c0, c1, c2⟩ := hc k x hx
      dsimp only [pV, qV, nV] at c0 c1 c2
      obtain ⟨x0, x1, x2⟩ := boxR (heap_alloc_new wr (rwObj x))
      have hB2 : Below w.heap.size w (wr.alloc (rwObj x)) := hB.trans ((alloc_low wr (rwObj x)).mono hB.size)
      have HB2 := Lib.hid hB2
      have u0 := fun d os => cell_regrown x0 d os
      have u1 := fun d os => cell_regrown x1 d os
      have u2 := fun d os => cell_regrown x2 d os
      have CO := Lib.hid fun W => HO2.out x.p x.q W
      have hkk : (k : Int) < (n : Int) := by omega
      by_cases hk0 : k = 0
      · subst hk0
        have hoke : okC l 0 = ((true && rightN x.p x.q) && decide (0 ≤ x.n)) := by unfold okC; rw [hx]
        simp only [Nat.zero_mul, Nat.add_zero] at c0 c1 c2
        by_cases hr : rightN x.p x.q = true
        · rw [hr] at CO hoke
          by_cases hn : 0 ≤ x.n
          · have hd : decide (x.n < 0) = false := decide_eq_false (by omega)
            have hok : okC l 0 = true := by rw [hoke, decide_eq_true hn]; rfl
            clear hr hn
            have HGO := hgo hok
            clear hok hoke hbad hgo hK hB hb hc hx hB2 HO
            go_wp2_with fail
            refine wp_region_quiet_below (by kernel_rfl) (by kernel_rfl) ?_
            repeat (go_big_quiet_step (fail))
            refine wpQuiet_nil ?_
            intro w' hw'
            obtain ⟨⟨d, os⟩, rfl⟩ := hw'
            have y0 := u0 d os
            have y1 := u1 d os
            have y2 := u2 d os
            have HB3 : Hid (Below w.heap.size w (grow (redrawn (wr.alloc (rwObj x)) d) os)) := Lib.hid (HB2.out.trans ((below_regrown _ d os).mono HB2.out.size))
            clear u0 u1 u2 x0 x1 x2 c0 c1 c2
            generalize grow (redrawn (wr.alloc (rwObj x)) d) os = w3 at y0 y1 y2 HB3 ⊢
            go_wp2_with fail
            refine (CO.out _).mono ?_
            rintro e w4 ⟨rfl, rfl⟩
            go_wp2_with fail
            go_roundw
            case rel => exact ⟨0 + 1, by go_num, HLE.out, Lib.hid ⟨HGO.out, HB3.out⟩⟩
            case measure => have h := HLE.out; simp [intOf]; omega
          · have hd : decide (x.n < 0) = true := decide_eq_true (by omega)
            have hok : okC l 0 = false := by rw [hoke, decide_eq_false hn]; rfl
            clear hr hn
            have HBAD := hbad hok
            clear hok hoke hbad hgo hK hB hb hc hx hB2 HO
            go_wp2_with fail
            refine wp_region_quiet_below (by kernel_rfl) (by kernel_rfl) ?_
            repeat (go_big_quiet_step (fail))
            refine wpQuiet_nil ?_
            intro w' hw'
            obtain ⟨⟨d, os⟩, rfl⟩ := hw'
            have y0 := u0 d os
            have y1 := u1 d os
            have y2 := u2 d os
            have HB3 : Hid (Below w.heap.size w (grow (redrawn (wr.alloc (rwObj x)) d) os)) := Lib.hid (HB2.out.trans ((below_regrown _ d os).mono HB2.out.size))
            clear u0 u1 u2 x0 x1 x2 c0 c1 c2
            generalize grow (redrawn (wr.alloc (rwObj x)) d) os = w3 at y0 y1 y2 HB3 ⊢
            go_wp2_with fail
            refine (CO.out _).mono ?_
            rintro e w4 ⟨rfl, rfl⟩
            go_wp2_with fail
            go_ret
            exact ⟨by rw [HBAD.out]; rfl, HB3.out⟩
        · have hr2 : rightN x.p x.q = false := by rw [Bool.eq_false_iff]; exact hr
          rw [hr2] at CO hoke
          have hok : okC l 0 = false := by rw [hoke]; rfl
          clear hr hr2
          have HBAD := hbad hok
          clear hok hoke hbad hgo hK hB hb hc hx hB2 HO
          go_wp2_with fail
          refine wp_region_quiet_below (by kernel_rfl) (by kernel_rfl) ?_
          repeat (go_big_quiet_step (fail))
          refine wpQuiet_nil ?_
          intro w' hw'
          obtain ⟨⟨d, os⟩, rfl⟩ := hw'
          have y0 := u0 d os
          have y1 := u1 d os
          have y2 := u2 d os
          have HB3 : Hid (Below w.heap.size w (grow (redrawn (wr.alloc (rwObj x)) d) os)) := Lib.hid (HB2.out.trans ((below_regrown _ d os).mono HB2.out.size))
          clear u0 u1 u2 x0 x1 x2 c0 c1 c2
          generalize grow (redrawn (wr.alloc (rwObj x)) d) os = w3 at y0 y1 y2 HB3 ⊢
          go_wp2_with fail
          refine (CO.out _).mono ?_
          rintro e w4 ⟨rfl, rfl⟩
          go_wp2_with fail
          go_ret
          exact ⟨by rw [HBAD.out]; rfl, HB3.out⟩
      · obtain ⟨k1, hk1e⟩ : ∃ k1, k = k1 + 1 := ⟨k - 1, by omega⟩
        obtain ⟨y, hy⟩ : ∃ y, l[k1]? = some y := ⟨_, List.getElem?_eq_getElem (by rw [HN.out]; omega)⟩
        have hoke : okC l k = ((decide (ordI y.p y.q x.p x.q < 0) && rightN x.p x.q) && decide (0 ≤ x.n)) := by
          have hx' := hx
          rw [hk1e] at hx' ⊢
          unfold okC
          rw [hx']
          simp only [hy]
        obtain ⟨d0, d1, d2⟩ := hc k1 y hy
        dsimp only [pV, qV, nV] at d0 d1 d2
        have hkne : ((k : Int) == 0) = false := beq_eq_false_iff_ne.2 (by omega)
        have hsub : IntKind.i64.wrap ((k : Int) - 1) = ((k1 : Nat) : Int) := by rw [IntKind.wrap_i64]; omega
        have hk1 : (k1 : Int) < (n : Int) := by omega
        have v0 := fun d os => cell_regrown (cell_alloc (rwObj x) d0) d os
        have v1 := fun d os => cell_regrown (cell_alloc (rwObj x) d1) d os
        have v2 := fun d os => cell_regrown (cell_alloc (rwObj x) d2) d os
        clear d0 d1 d2 hk0 hk1e
        have hcc := fun d os => Calls.regrown_of (d := d) (os := os) (HO1.out y x (grow (redrawn (wr.alloc (rwObj x)) d) os))
        generalize ordI y.p y.q x.p x.q = r at hcc hoke
        have HCC := Lib.hid hcc
        clear hcc hy
        by_cases ho : r < 0
        · rw [decide_eq_true ho] at hoke
          by_cases hr : rightN x.p x.q = true
          · rw [hr] at CO hoke
            by_cases hn : 0 ≤ x.n
            · have hd : decide (x.n < 0) = false := decide_eq_false (by omega)
              have hok : okC l k = true := by rw [hoke, decide_eq_true hn]; rfl
              clear hr hn
              have HGO := hgo hok
              clear hok hoke hbad hgo hK hB hb hc hx hB2 HO
              go_wp2_with fail
              refine wp_region_quiet_below (by kernel_rfl) (by kernel_rfl) ?_
              repeat (go_big_quiet_step (exact HCC.out _ _))
              refine wpQuiet_nil ?_
              intro w' hw'
              obtain ⟨⟨d, os⟩, rfl⟩ := hw'
              have y0 := u0 d os
              have y1 := u1 d os
              have y2 := u2 d os
              have HB3 : Hid (Below w.heap.size w (grow (redrawn (wr.alloc (rwObj x)) d) os)) := Lib.hid (HB2.out.trans ((below_regrown _ d os).mono HB2.out.size))
              clear u0 u1 u2 x0 x1 x2 c0 c1 c2 v0 v1 v2 HCC
              generalize grow (redrawn (wr.alloc (rwObj x)) d) os = w3 at y0 y1 y2 HB3 ⊢
              go_wp2_with fail
              refine (CO.out _).mono ?_
              rintro e w4 ⟨rfl, rfl⟩
              go_wp2_with fail
              go_roundw
              case rel => exact ⟨k + 1, by go_num, HLE.out, Lib.hid ⟨HGO.out, HB3.out⟩⟩
              case measure => have h := HLE.out; simp [intOf]; omega
            · have hd : decide (x.n < 0) = true := decide_eq_true (by omega)
              have hok : okC l k = false := by rw [hoke, decide_eq_false hn]; rfl
              clear hr hn
              have HBAD := hbad hok
              clear hok hoke hbad hgo hK hB hb hc hx hB2 HO
              go_wp2_with fail
              refine wp_region_quiet_below (by kernel_rfl) (by kernel_rfl) ?_
              repeat (go_big_quiet_step (exact HCC.out _ _))
              refine wpQuiet_nil ?_
              intro w' hw'
              obtain ⟨⟨d, os⟩, rfl⟩ := hw'
              have y0 := u0 d os
              have y1 := u1 d os
              have y2 := u2 d os
              have HB3 : Hid (Below w.heap.size w (grow (redrawn (wr.alloc (rwObj x)) d) os)) := Lib.hid (HB2.out.trans ((below_regrown _ d os).mono HB2.out.size))
              clear u0 u1 u2 x0 x1 x2 c0 c1 c2 v0 v1 v2 HCC
              generalize grow (redrawn (wr.alloc (rwObj x)) d) os = w3 at y0 y1 y2 HB3 ⊢
              go_wp2_with fail
              refine (CO.out _).mono ?_
              rintro e w4 ⟨rfl, rfl⟩
              go_wp2_with fail
              go_ret
              exact ⟨by rw [HBAD.out]; rfl, HB3.out⟩
          · have hr2 : rightN x.p x.q = false := by rw [Bool.eq_false_iff]; exact hr
            rw [hr2] at CO hoke
            have hok : okC l k = false := by rw [hoke]; rfl
            clear hr hr2
            have HBAD := hbad hok
            clear hok hoke hbad hgo hK hB hb hc hx hB2 HO
            go_wp2_with fail
            refine wp_region_quiet_below (by kernel_rfl) (by kernel_rfl) ?_
            repeat (go_big_quiet_step (exact HCC.out _ _))
            refine wpQuiet_nil ?_
            intro w' hw'
            obtain ⟨⟨d, os⟩, rfl⟩ := hw'
            have y0 := u0 d os
            have y1 := u1 d os
            have y2 := u2 d os
            have HB3 : Hid (Below w.heap.size w (grow (redrawn (wr.alloc (rwObj x)) d) os)) := Lib.hid (HB2.out.trans ((below_regrown _ d os).mono HB2.out.size))
            clear u0 u1 u2 x0 x1 x2 c0 c1 c2 v0 v1 v2 HCC
            generalize grow (redrawn (wr.alloc (rwObj x)) d) os = w3 at y0 y1 y2 HB3 ⊢
            go_wp2_with fail
            refine (CO.out _).mono ?_
            rintro e w4 ⟨rfl, rfl⟩
            go_wp2_with fail
            go_ret
            exact ⟨by rw [HBAD.out]; rfl, HB3.out⟩
        · rw [decide_eq_false ho] at hoke
          have hok : okC l k = false := by rw [hoke]; rfl
          have hdo : decide (r < 0) = false := decide_eq_false ho
          have HBAD := hbad hok
          clear hok hoke hbad hgo hK hB hb hc hx hB2 HO
          go_wp2_with fail
          refine wp_region_quiet_below (by kernel_rfl) (by kernel_rfl) ?_
          repeat (go_big_quiet_step (exact HCC.out _ _))
          refine wpQuiet_nil ?_
          intro w' hw'
          obtain ⟨⟨d, os⟩, rfl⟩ := hw'
          have y0 := u0 d os
          have y1 := u1 d os
          have y2 := u2 d os
          have HB3 : Hid (Below w.heap.size w (grow (redrawn (wr.alloc (rwObj x)) d) os)) := Lib.hid (HB2.out.trans ((below_regrown _ d os).mono HB2.out.size))
          clear u0 u1 u2 x0 x1 x2 c0 c1 c2 v0 v1 v2 HCC
          generalize grow (redrawn (wr.alloc (rwObj x)) d) os = w3 at y0 y1 y2 HB3 ⊢
          go_wp2_with fail
          go_ret
          exact ⟨by rw [HBAD.out]; rfl, HB3.out⟩
    · obtain rfl : k = n := by omega
      have HF : Hid (g = true) := Lib.hid (by
        rw [← HG.out]
        exact all_range.2 fun i hi => HO.out.1 i (by rw [← HN.out]; exact hi))
      go_wp2_with fail
      go_ret
      exact ⟨by rw [HF.out]; rfl, HO.out.2⟩

set_option maxRecDepth 1000000 in
set_option maxHeartbeats 4000000 in
theorem refGood_calls (l : List Rw) (hl : l.length ≤ 281474976710656) (v : Value) (w : World) (h : OldW w.heap.size w v l) :
    Calls Try.prog 9 #[v] w (RetB w (goodR l)) := by
  obtain ⟨g, hg⟩ : ∃ g, goodR l = g := ⟨_, rfl⟩
  rw [hg]
  obtain ⟨A, cap, rfl, _⟩ := h.form
  obtain ⟨n, hN⟩ : ∃ n, l.length = n := ⟨_, rfl⟩
  rw [hN] at h hl ⊢
  have HN := Lib.hid hN
  have HI := Lib.hid h
  have HG := Lib.hid hg
  have HO2 : Hid (∀ (p q : Int) (W : World), Calls Try.prog 19 #[.int .i64 p, .int .i64 q] W (RetB W (rightN p q))) := Lib.hid fun p q W => (right_calls p q W).mono fun _ _ h => ⟨h.1, by rw [← h.2]; exact Below.refl _ _⟩
  clear hN h hg
  go_enter Try.func9, Try.ntmps9
  go_wp2_with fail
  go_loopw [3] (fun i wr => ∃ k : Nat, i = .int .i64 k ∧ k ≤ n ∧ Hid ((∀ j, j < k → okR l j = true) ∧ Below w.heap.size w wr)) (fun i _ => n - (intOf i).toNat)
  case atStart => exact ⟨0, rfl, Nat.zero_le _, Lib.hid ⟨fun j hj => absurd hj (Nat.not_lt_zero _), Below.refl _ _⟩⟩
  case round =>
    obtain ⟨k, rfl, hk, HO⟩ := hrel
    by_cases hlt : k < n
    · obtain ⟨x, hx⟩ : ∃ x, l[k]? = some x := ⟨_, List.getElem?_eq_getElem (by rw [HN.out]; exact hlt)⟩
      obtain ⟨hK, hB⟩ := HO.out
      have HLE : Hid (k + 1 ≤ n) := Lib.hid hlt
      have hbad : okR l k = false → Hid (g = false) := fun hf => Lib.hid (by
        rw [← HG.out]
        exact good_false (by rw [HN.out]; exact hlt) hf)
      have hgo : okR l k = true → Hid (∀ j, j < k + 1 → okR l j = true) := fun hf => Lib.hid fun j hj => by
        rcases Nat.lt_or_ge j k with h1 | h1
        · exact hK j h1
        · obtain rfl : j = k := by omega
          exact hf
      obtain ⟨b, off, rfl, hb, hc⟩ := (ThreeAt.low hB HI.out).at (by omega)
      obtain ⟨c0, c1, c2⟩ := hc k x hx
      dsimp only [pV, qV, nV] at c0 c1 c2
      have HB := Lib.hid hB
      have hcc := fun d os => Calls.regrown_of (d := d) (os := os) (HO2.out x.p x.q (grow (redrawn wr d) os))
      have hkk : (k : Int) < (n : Int) := by omega
      by_cases hr : rightN x.p x.q = true
      · by_cases hn : 0 ≤ x.n
        · have hd : decide (x.n < 0) = false := decide_eq_false (by omega)
          by_cases hk0 : k = 0
          · subst hk0
            have hoke : okR l 0 = ((rightN x.p x.q && decide (0 ≤ x.n)) && true) := by unfold okR; rw [hx]
            have hok : okR l 0 = true := by rw [hoke, hr, decide_eq_true hn]; rfl
            rw [hr] at hcc
            simp only [Nat.zero_mul, Nat.add_zero] at c0 c1 c2
            have HGO := hgo hok
            clear hok hoke hbad hgo hK hB hb hc hx HO hn
            have u0 := fun d os => cell_regrown c0 d os
            have u1 := fun d os => cell_regrown c1 d os
            have u2 := fun d os => cell_regrown c2 d os
            have HCC := Lib.hid hcc
            go_wp2_with fail
            refine wp_region_quiet_below (by kernel_rfl) (by kernel_rfl) ?_
            repeat (go_big_quiet_step (exact HCC.out _ _))
            refine wpQuiet_nil ?_
            intro w' hw'
            obtain ⟨⟨d, os⟩, rfl⟩ := hw'
            have HB3 : Hid (Below w.heap.size w (grow (redrawn wr d) os)) := Lib.hid (HB.out.trans ((below_regrown _ d os).mono HB.out.size))
            have y0 := u0 d os
            have y1 := u1 d os
            clear u0 u1 u2 c0 c1 c2 HCC hcc
            generalize grow (redrawn wr d) os = w3 at y0 y1 HB3 ⊢
            have ty0 := fun d os => cell_regrown y0 d os
            have ty1 := fun d os => cell_regrown y1 d os
            go_wp2_with fail
            refine wp_region_quiet_below (by kernel_rfl) (by kernel_rfl) ?_
            repeat (go_big_quiet_step (fail))
            refine wpQuiet_nil ?_
            intro w4 hw'
            obtain ⟨⟨d, os⟩, rfl⟩ := hw'
            have HB4 : Hid (Below w.heap.size w (grow (redrawn w3 d) os)) := Lib.hid (HB3.out.trans ((below_regrown _ d os).mono HB3.out.size))
            clear ty0 ty1 y0 y1
            generalize grow (redrawn w3 d) os = w5 at HB4 ⊢
            go_wp2_with fail
            go_roundw
            case rel => exact ⟨0 + 1, by go_num, HLE.out, Lib.hid ⟨HGO.out, HB4.out⟩⟩
            case measure => have h := HLE.out; simp [intOf]; omega
          · obtain ⟨k1, hk1e⟩ : ∃ k1, k = k1 + 1 := ⟨k - 1, by omega⟩
            obtain ⟨y, hy⟩ : ∃ y, l[k1]? = some y := ⟨_, List.getElem?_eq_getElem (by rw [HN.out]; omega)⟩
            have hoke : okR l k = ((rightN x.p x.q && decide (0 ≤ x.n)) && decide (8 * y.p + y.q < 8 * x.p + x.q)) := by
              have hx' := hx
              rw [hk1e] at hx' ⊢
              unfold okR
              rw [hx']
              simp only [hy]
            have hry : rightN y.p y.q = true := (okR_right hy (hK k1 (by omega))).1
            obtain ⟨d0, d1, d2⟩ := hc k1 y hy
            dsimp only [pV, qV, nV] at d0 d1 d2
            have hkne : decide ((k : Int) > 0) = true := decide_eq_true (by omega)
            have hkpos : 0 < k := by omega
            have hkd : decide (0 < k) = true := decide_eq_true hkpos
            have hsub : IntKind.i64.wrap ((k : Int) - 1) = ((k1 : Nat) : Int) := by rw [IntKind.wrap_i64]; omega
            have hk1 : (k1 : Int) < (n : Int) := by omega
            rw [hr] at hcc
            by_cases ho : 8 * y.p + y.q < 8 * x.p + x.q
            · have hok : okR l k = true := by rw [hoke, hr, decide_eq_true hn, decide_eq_true ho]; rfl
              have hge : decide (8 * x.p + x.q ≤ 8 * y.p + y.q) = false := decide_eq_false (by omega)
              have HGO := hgo hok
              clear hok hoke hbad hgo hK hB hb hc hx HO hn hy hk0 hk1e d2 ho
              have u0 := fun d os => cell_regrown c0 d os
              have u1 := fun d os => cell_regrown c1 d os
              have u2 := fun d os => cell_regrown c2 d os
              have HCC := Lib.hid hcc
              go_wp2_with fail
              refine wp_region_quiet_below (by kernel_rfl) (by kernel_rfl) ?_
              repeat (go_big_quiet_step (exact HCC.out _ _))
              refine wpQuiet_nil ?_
              intro w' hw'
              obtain ⟨⟨d, os⟩, rfl⟩ := hw'
              have HB3 : Hid (Below w.heap.size w (grow (redrawn wr d) os)) := Lib.hid (HB.out.trans ((below_regrown _ d os).mono HB.out.size))
              have y0 := u0 d os
              have y1 := u1 d os
              have z0 := cell_regrown d0 d os
              have z1 := cell_regrown d1 d os
              clear u0 u1 u2 c0 c1 c2 HCC hcc d0 d1
              generalize grow (redrawn wr d) os = w3 at y0 y1 z0 z1 HB3 ⊢
              have ty0 := fun d os => cell_regrown y0 d os
              have ty1 := fun d os => cell_regrown y1 d os
              have tz0 := fun d os => cell_regrown z0 d os
              have tz1 := fun d os => cell_regrown z1 d os
              obtain ⟨r1, r2, r3, r4⟩ := rightN_iff.1 hr
              obtain ⟨s1, s2, s3, s4⟩ := rightN_iff.1 hry
              have m1 : IntKind.i64.wrap (8 * x.p) = 8 * x.p := by rw [IntKind.wrap_i64]; omega
              have m2 : IntKind.i64.wrap (8 * x.p + x.q) = 8 * x.p + x.q := by rw [IntKind.wrap_i64]; omega
              have m3 : IntKind.i64.wrap (8 * y.p) = 8 * y.p := by rw [IntKind.wrap_i64]; omega
              have m4 : IntKind.i64.wrap (8 * y.p + y.q) = 8 * y.p + y.q := by rw [IntKind.wrap_i64]; omega
              clear hr hry r1 r2 r3 r4 s1 s2 s3 s4
              go_wp2_with fail
              refine wp_region_quiet_below (by kernel_rfl) (by kernel_rfl) ?_
              repeat (go_big_quiet_step (fail))
              refine wpQuiet_nil ?_
              intro w4 hw'
              obtain ⟨⟨d, os⟩, rfl⟩ := hw'
              have HB4 : Hid (Below w.heap.size w (grow (redrawn w3 d) os)) := Lib.hid (HB3.out.trans ((below_regrown _ d os).mono HB3.out.size))
              clear ty0 ty1 y0 y1 tz0 tz1 z0 z1
              generalize grow (redrawn w3 d) os = w5 at HB4 ⊢
              go_wp2_with fail
              go_roundw
              case rel => exact ⟨k + 1, by go_num, HLE.out, Lib.hid ⟨HGO.out, HB4.out⟩⟩
              case measure => have h := HLE.out; simp [intOf]; omega
            · have hok : okR l k = false := by rw [hoke, decide_eq_false ho, Bool.and_false]
              have hge : 8 * x.p + x.q ≤ 8 * y.p + y.q := by omega
              have HBAD := hbad hok
              clear hok hoke hbad hgo hK hB hb hc hx HO hn hy hk0 hk1e d2 ho
              have u0 := fun d os => cell_regrown c0 d os
              have u1 := fun d os => cell_regrown c1 d os
              have u2 := fun d os => cell_regrown c2 d os
              have HCC := Lib.hid hcc
              go_wp2_with fail
              refine wp_region_quiet_below (by kernel_rfl) (by kernel_rfl) ?_
              repeat (go_big_quiet_step (exact HCC.out _ _))
              refine wpQuiet_nil ?_
              intro w' hw'
              obtain ⟨⟨d, os⟩, rfl⟩ := hw'
              have HB3 : Hid (Below w.heap.size w (grow (redrawn wr d) os)) := Lib.hid (HB.out.trans ((below_regrown _ d os).mono HB.out.size))
              have y0 := u0 d os
              have y1 := u1 d os
              have z0 := cell_regrown d0 d os
              have z1 := cell_regrown d1 d os
              clear u0 u1 u2 c0 c1 c2 HCC hcc d0 d1
              generalize grow (redrawn wr d) os = w3 at y0 y1 z0 z1 HB3 ⊢
              have ty0 := fun d os => cell_regrown y0 d os
              have ty1 := fun d os => cell_regrown y1 d os
              have tz0 := fun d os => cell_regrown z0 d os
              have tz1 := fun d os => cell_regrown z1 d os
              obtain ⟨r1, r2, r3, r4⟩ := rightN_iff.1 hr
              obtain ⟨s1, s2, s3, s4⟩ := rightN_iff.1 hry
              have m1 : IntKind.i64.wrap (8 * x.p) = 8 * x.p := by rw [IntKind.wrap_i64]; omega
              have m2 : IntKind.i64.wrap (8 * x.p + x.q) = 8 * x.p + x.q := by rw [IntKind.wrap_i64]; omega
              have m3 : IntKind.i64.wrap (8 * y.p) = 8 * y.p := by rw [IntKind.wrap_i64]; omega
              have m4 : IntKind.i64.wrap (8 * y.p + y.q) = 8 * y.p + y.q := by rw [IntKind.wrap_i64]; omega
              clear hr hry r1 r2 r3 r4 s1 s2 s3 s4
              go_wp2_with fail
              refine wp_region_quiet_below (by kernel_rfl) (by kernel_rfl) ?_
              repeat (go_big_quiet_step (fail))
              refine wpQuiet_nil ?_
              intro w4 hw'
              obtain ⟨⟨d, os⟩, rfl⟩ := hw'
              have HB4 : Hid (Below w.heap.size w (grow (redrawn w3 d) os)) := Lib.hid (HB3.out.trans ((below_regrown _ d os).mono HB3.out.size))
              clear ty0 ty1 y0 y1 tz0 tz1 z0 z1
              generalize grow (redrawn w3 d) os = w5 at HB4 ⊢
              go_wp2_with fail
              go_ret
              exact ⟨by rw [HBAD.out]; rfl, HB4.out⟩
        · have hd : decide (x.n < 0) = true := decide_eq_true (by omega)
          have hoke : okR l k = false := by unfold okR; rw [hx]; simp [hn]
          have hok := hoke
          rw [hr] at hcc
          have HBAD := hbad hok
          clear hok hoke hbad hgo hK hB hb hc hx HO hn hr
          have u0 := fun d os => cell_regrown c0 d os
          have u1 := fun d os => cell_regrown c1 d os
          have u2 := fun d os => cell_regrown c2 d os
          have HCC := Lib.hid hcc
          go_wp2_with fail
          refine wp_region_quiet_below (by kernel_rfl) (by kernel_rfl) ?_
          repeat (go_big_quiet_step (exact HCC.out _ _))
          refine wpQuiet_nil ?_
          intro w' hw'
          obtain ⟨⟨d, os⟩, rfl⟩ := hw'
          have HB3 : Hid (Below w.heap.size w (grow (redrawn wr d) os)) := Lib.hid (HB.out.trans ((below_regrown _ d os).mono HB.out.size))
          clear u0 u1 u2 c0 c1 c2 HCC hcc
          generalize grow (redrawn wr d) os = w3 at HB3 ⊢
          go_wp2_with fail
          go_ret
          exact ⟨by rw [HBAD.out]; rfl, HB3.out⟩
      · have hr2 : rightN x.p x.q = false := by rw [Bool.eq_false_iff]; exact hr
        have hoke : okR l k = false := by unfold okR; rw [hx]; simp [hr2]
        have hok := hoke
        rw [hr2] at hcc
        have HBAD := hbad hok
        clear hok hoke hbad hgo hK hB hb hc hx HO hr hr2
        have u0 := fun d os => cell_regrown c0 d os
        have u1 := fun d os => cell_regrown c1 d os
        have u2 := fun d os => cell_regrown c2 d os
        have HCC := Lib.hid hcc
        go_wp2_with fail
        refine wp_region_quiet_below (by kernel_rfl) (by kernel_rfl) ?_
        repeat (go_big_quiet_step (exact HCC.out _ _))
        refine wpQuiet_nil ?_
        intro w' hw'
        obtain ⟨⟨d, os⟩, rfl⟩ := hw'
        have HB3 : Hid (Below w.heap.size w (grow (redrawn wr d) os)) := Lib.hid (HB.out.trans ((below_regrown _ d os).mono HB.out.size))
        clear u0 u1 u2 c0 c1 c2 HCC hcc
        generalize grow (redrawn wr d) os = w3 at HB3 ⊢
        go_wp2_with fail
        go_ret
        exact ⟨by rw [HBAD.out]; rfl, HB3.out⟩
    · obtain rfl : k = n := by omega
      have HF : Hid (g = true) := Lib.hid (by
        rw [← HG.out]
        exact all_range.2 fun i hi => HO.out.1 i (by rw [← HN.out]; exact hi))
      go_wp2_with fail
      go_ret
      exact ⟨by rw [HF.out]; rfl, HO.out.2⟩

end Go.Proofs.Ytlcmnemneghohaa.Dedup
