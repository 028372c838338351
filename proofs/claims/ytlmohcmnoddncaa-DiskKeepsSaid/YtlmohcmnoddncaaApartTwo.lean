/-
  The contract of Apart: of slices of bytes that no two of share a block it returns true, and nothing below their blocks has turned.
-/
import Derived.Test.YtlmohcmnoddncaaApartOne
namespace Go.Proofs.Ytlmohcmnoddncaa.Law
open Go.RowKit

theorem lt_of_someA {W : World} {b : Nat} {o : Obj} (h : W.heap[b]? = some o) : b < W.heap.size := by
  rcases Nat.lt_or_ge b W.heap.size with hlt | hge
  · exact hlt
  · rw [Array.getElem?_eq_none hge] at h; cases h

theorem replicate_getA (n x j : Nat) (h : j < n) : (List.replicate n x).getD j 0 = x := by
  simp [List.getD, h]

theorem head_cell {W : World} {bl : Nat} {cur : Array Value} {t : TypeId} {fz : Nat × Nat} (h : W.heap[bl]? = some (.cells cur t fz)) {j : Nat} {v : Value} (hj : cur[j]? = some v) : W.cell? ⟨bl, j, none⟩ = some v := by
  simp [World.cell?, h, hj]

/-- Only the slices' own blocks, and new ones, have turned. -/
def Leaves (N : Nat) (v : Nat → Value) (base : Nat) (w W : World) : Prop := Below base w W ∧ ∀ k, k < w.heap.size → (∀ j, j < N → (v j).ownBlock ≠ some k) → W.heap[k]? = w.heap[k]?
theorem Leaves.refl (N : Nat) (v : Nat → Value) (base : Nat) (w : World) : Leaves N v base w w := ⟨Below.refl _ _, fun _ _ _ => rfl⟩
theorem Leaves.grown {N : Nat} {v : Nat → Value} {base : Nat} {w W W' : World} {row : Option Nat} (h : Leaves N v base w W) (hg : W.grownBy W' row) (hb : base ≤ W.heap.size) (hr : ∀ b, row = some b → base ≤ b ∧ ((∃ j, j < N ∧ (v j).ownBlock = some b) ∨ w.heap.size ≤ b)) : Leaves N v base w W' := by
  refine ⟨h.1.grown hg hb (fun k hk => (hr k hk).1), fun k hk hno => ?_⟩
  refine (hg.block k (Nat.lt_of_lt_of_le hk h.1.size) (fun e => ?_)).trans (h.2 k hk hno)
  rcases (hr k e.symm).2 with ⟨j, hj, hv⟩ | h1
  · exact hno j hj hv
  · omega
theorem Leaves.alloc {N : Nat} {v : Nat → Value} {base : Nat} {w W : World} (h : Leaves N v base w W) (hb : base ≤ W.heap.size) (o : Obj) : Leaves N v base w (W.alloc o) :=
  ⟨h.1.alloc hb o, fun k hk hno => (Below.heap_alloc _ _ _ (Nat.lt_of_lt_of_le hk h.1.size)).trans (h.2 k hk hno)⟩
theorem Leaves.setOwn {N : Nat} {v : Nat → Value} {base g i : Nat} {w W : World} (h : Leaves N v base w W) {k : Nat} (hk : k < N) (hv : (v k).ownBlock = some g) (hg : base ≤ g) (hb : base ≤ W.heap.size) (u : Value) : Leaves N v base w (W.setCell ⟨g, i, none⟩ u) :=
  h.grown (grownBy_setAt W g i u) hb (fun b e => by cases e; exact ⟨hg, .inl ⟨k, hk, hv⟩⟩)

set_option maxRecDepth 100000 in
set_option maxHeartbeats 8000000 in
theorem apart_calls (N : Nat) (hN : N ≤ 200) (v : Nat → Value) (L : Nat → Nat) (hL : ∀ j, j < N → L j ≤ 140737488350000) (bl c : Nat) (cur : Array Value) (fz : Nat × Nat) (base : Nat) (w : World) (hbase : base ≤ w.heap.size)
    (hcur : ∀ j, j < N → cur[j]? = some (v j)) (hhead : w.heap[bl]? = some (.cells cur 34 fz)) (hD : Distinct N v) (h0 : ∀ j, j < N → ∃ bs : List Nat, bs.length = L j ∧ OwnB w base 5 (v j) bs) :
    Calls Try.prog 23 #[.slice (some ⟨bl, 0, none⟩) N c] w fun e W' => e = .returned (.bool true) ∧ Leaves N v base w W' := by
  obtain ⟨i0, hi, hz0, hz1, hz2⟩ := info_parts info_u8'
  obtain ⟨j0, ji, jz0, jz1, jz2⟩ := info_parts info_rowB
  have hW0 : Written 5 N v L base w 0 0 := by
    refine ⟨fun j => if h : j < N then (h0 j h).choose else [], fun j hj => ?_⟩
    simp only [hj, dif_pos]
    exact ⟨(h0 j hj).choose_spec.1, (h0 j hj).choose_spec.2, fun h => absurd h (by omega), fun _ x hx => absurd hx (by omega)⟩
  have HD := Lib.hid hD
  have HC := Lib.hid hcur
  have HLM := Lib.hid hL
  clear h0 hD hcur hL
  go_enter Try.func23, Try.ntmps23
  go_wp2
  go_loopw [3] (fun i wr => ∃ k : Nat, k ≤ N ∧ i = .int .i64 k ∧ Written 5 N v L base wr k 0 ∧ wr.heap[bl]? = some (.cells cur 34 fz) ∧ Leaves N v base w wr) (fun i _ => N - (intOf i).toNat)
  case atStart => exact ⟨0, Nat.zero_le _, rfl, hW0, hhead, Leaves.refl _ _ _ _⟩
  case round =>
    obtain ⟨k, hk, rfl, hW, hH, hB⟩ := hrel
    have HW := Lib.hid hW
    have HH := Lib.hid hH
    clear hW hH
    by_cases hlt : k < N
    · have hkI : (k : Int) < (N : Int) := by omega
      go_wp2
      go_loopw [4] (fun i wx => ∃ i' : Nat, i' ≤ L k ∧ i = .int .i64 i' ∧ Written 5 N v L base wx k i' ∧ wx.heap[bl]? = some (.cells cur 34 fz) ∧ Leaves N v base w wx) (fun i _ => L k - (intOf i).toNat)
      case atStart => exact ⟨0, Nat.zero_le _, rfl, HW.out, HH.out, hB⟩
      case round =>
        obtain ⟨i, hi', rfl, hW, hH, hB⟩ := hrel
        have hcell := head_cell hH (HC.out k hlt)
        have hO : ∃ bs : List Nat, bs.length = L k ∧ OwnB wr base 5 (v k) bs := by
          obtain ⟨B, hBs⟩ := hW
          exact ⟨B k, (hBs k hlt).1, (hBs k hlt).2.1⟩
        obtain ⟨bs, hbl, hO⟩ := hO
        have HW := Lib.hid hW
        have HH := Lib.hid hH
        clear hW hH
        by_cases hil : i < L k
        · obtain ⟨g, cp, hv, hg1, hg2⟩ := hO.form (by omega)
          rw [hbl] at hv
          have hst := HW.out.store hlt hil HD.out (by omega) hv
          have hown : (v k).ownBlock = some g := by rw [hv]; rfl
          rw [hv] at hO hcell
          obtain ⟨hc, hf⟩ := hO.cell hbl i hil
          have hgb : some bl ≠ some g := by
            rcases hO.cells_ofA HH.out (by decide) with h | h
            · cases h
            · exact fun e => h (by rw [e]; rfl)
          have hH2 := ((grownBy_setAt wr g i (.int .u8 (k : Nat))).block bl (lt_of_someA HH.out) hgb).trans HH.out
          obtain ⟨l, hl⟩ : ∃ l, L k = l := ⟨_, rfl⟩
          have hLk := HLM.out k hlt
          rw [hl] at hcell hil hLk
          have hwr : IntKind.u8.wrap (k : Int) = (k : Int) := by rw [IntKind.wrap_u8']; omega
          have hilI : (i : Int) < (l : Int) := by omega
          have HST := Lib.hid hst
          have HH2 := Lib.hid hH2
          have HLk := Lib.hid hl
          have HOWN := Lib.hid hown
          clear hst hH2 hO hbl hv hgb hl hown
          go_wp2
          go_roundw
          case rel => exact ⟨i + 1, by rw [HLk.out]; omega, by go_num, HST.out, HH2.out, hB.setOwn hlt HOWN.out hg1 (Nat.le_trans hbase hB.1.size) _⟩
          case measure => simp [intOf]; rw [HLk.out]; omega
        · obtain rfl : i = L k := by omega
          obtain ⟨A, cp, hv⟩ := hO.bytes.form
          rw [hbl] at hv
          rw [hv] at hcell
          have hnx := HW.out.next
          have HNX := Lib.hid hnx
          obtain ⟨l, hl⟩ : ∃ l, L k = l := ⟨_, rfl⟩
          rw [hl] at hcell ⊢
          clear hnx hO hbl hv hl
          go_wp2
          go_roundw
          case rel => exact ⟨k + 1, by omega, by go_num, HNX.out, HH.out, hB⟩
          case measure => simp [intOf]; omega
    · obtain rfl : k = N := by omega
      have hall := HW.out.all
      have hlow : ∀ j, j < k → ∀ b, (v j).ownBlock = some b → b < wr.heap.size := fun j hj b hb => ((hall j hj).1.lt b hb).2
      have hblk := lt_of_someA HH.out
      have hG0 : Grown 5 34 k v L base wr.heap.size bl (.cells cur 34 fz) 0 (fun _ => .slice none 0 0) (.slice none 0 0) wr :=
        ⟨hall, fun j hj => absurd hj (by omega), fun j hj => absurd hj (by omega), by simpa using World.ownsRow_nil wr wr.heap.size 34 1, Nat.le_refl _, HH.out⟩
      have hBs : base ≤ wr.heap.size := Nat.le_trans hbase hB.1.size
      have hws := hB.1.size
      obtain ⟨s, hs⟩ : ∃ s, wr.heap.size = s := ⟨_, rfl⟩
      rw [hs] at hlow hblk hG0 hBs hws
      have HLow := Lib.hid hlow
      have HG0 := Lib.hid hG0
      clear hall hlow hG0
      go_wp2
      go_loopw [5, 6] (fun u i wr => ∃ (m : Nat) (gs : Nat → Value) (vg : Value), vg = u ∧ m ≤ k ∧ i = .int .i64 m ∧ Grown 5 34 k v L base s bl (.cells cur 34 fz) m gs vg wr ∧ Leaves k v base w wr) (fun _ i _ => k - (intOf i).toNat)
      case atStart => exact ⟨0, _, _, rfl, Nat.zero_le _, rfl, HG0.out, hB⟩
      case round =>
        obtain ⟨m, gs, vg, rfl, hm, rfl, hG, hB⟩ := hrel
        have HG := Lib.hid hG
        clear hG
        by_cases hmk : m < k
        · have hmI : (m : Int) < (k : Int) := by omega
          have hcell := head_cell HG.out.head (HC.out m hmk)
          have hch := Chain.start HG.out hmk
          have hsk := HG.out.size
          obtain ⟨sk, hske⟩ : ∃ sk, wr.heap.size = sk := ⟨_, rfl⟩
          rw [hske] at hch hsk
          have HCH := Lib.hid hch
          clear hch
          obtain ⟨A, cp, hv⟩ := (HCH.out.bytes).bytes.form
          rw [List.length_replicate, Nat.add_zero] at hv
          have hLm := HLM.out m hmk
          have hwr : IntKind.u8.wrap (m : Int) = (m : Int) := by rw [IntKind.wrap_u8']; omega
          have HV := Lib.hid hv
          rw [hv] at hcell
          clear hv
          go_wp2
          clear hcell
          rw [← HV.out]
          go_loopw [7, 8] (fun u i wr => ∃ (n : Nat) (x : Value), x = u ∧ n ≤ 5 ∧ i = .int .i64 n ∧ Chain 5 34 k v L base s bl (.cells cur 34 fz) m gs vg sk n x wr ∧ Leaves k v base w wr) (fun _ i _ => 5 - (intOf i).toNat)
          case atStart => exact ⟨0, _, rfl, by omega, rfl, HCH.out, hB⟩
          case round =>
            obtain ⟨n, x, rfl, hn, rfl, hC, hB⟩ := hrel
            have HCN := Lib.hid hC
            clear hC
            by_cases hn5 : n < 5
            · have hnI : (n : Int) < 5 := by omega
              have hbs := HCN.out.grown.size
              have hBy := Bytes.lit wr 5 #[.int .u8 (m : Nat)] [m] 1 rfl (by omega) rfl (by intro x hx; simp at hx; omega)
              have hroom : (List.replicate (L m + n) m).length + 1 ≤ 140737488355328 := by rw [List.length_replicate]; omega
              have hbase2 : base ≤ (wr.alloc (.cells #[.int .u8 (m : Nat)] 5)).heap.size := by simp; omega
              have hB2 := hB.alloc (show base ≤ wr.heap.size by omega) (.cells #[.int .u8 (m : Nat)] 5)
              have HBY := Lib.hid hBy
              have HRM := Lib.hid hroom
              clear hBy hroom
              go_wp2_with (at_builtin; refine wpList_append_one rfl _ _ _ rfl Try.underlying34 hi hz0 hz1 hz2 rfl rfl rfl (HCN.out.bytes.alloc _) HBY.out HRM.out hbase2 ?next)
              case next =>
                intro v' w' O G hat hst
                have hC' := HCN.out.step hmk HD.out HLow.out hsk (by decide) O G (by rw [World.size_alloc]; exact hat) (fun b y ys h1 h2 => hst b y ys h1 (by rwa [List.length_replicate] at h2))
                have hB3 := hB2.grown G hbase2 (fun b e => ⟨((HCN.out.bytes.alloc (.cells #[.int .u8 (m : Nat)] 5)).1.lt b e).1, by
                  rcases HCN.out.place b e with h1 | h1
                  · exact .inl ⟨m, hmk, h1⟩
                  · exact .inr (by omega)⟩)
                have HC' := Lib.hid hC'
                clear O G hat hst hC' hbase2 hB2
                go_wp2
                go_roundw
                case rel => exact ⟨n + 1, _, rfl, by omega, by go_num, HC'.out, hB3⟩
                case measure => simp [intOf]; omega
            · obtain rfl : n = 5 := by omega
              obtain ⟨A2, c2, hx⟩ := HCN.out.bytes.bytes.form
              rw [List.length_replicate] at hx
              subst hx
              have hrow := HCN.out.grown.row
              have hbs := HCN.out.grown.size
              go_wp2_with (at_builtin; refine wpList_append_own_at _ rfl _ _ 55 rfl s 34 j0 (.slice none 0 0) 1 24 Try.underlying55 ji jz0 jz1 jz2 rfl (by decide) _ _ _ rfl (hrow.alloc _) ⟨wr.heap.size, 0, none⟩ 1 1 [.slice A2 (L m + 5) c2] rfl rfl (cell_one_new _ _ _) (by simp [Value.oneCell']) (by simp only [maxLen]; omega) (by omega) (by simp; omega) ?_; intro v5 w5 hown' hgrow _ _)
              have hG' := HCN.out.collect hblk hsk (by decide) hown' hgrow
              have hB' := (hB.alloc (show base ≤ wr.heap.size by omega) _).grown hgrow (by simp; omega) (fun b e => by
                have := (hrow.lt b e).1
                exact ⟨by omega, .inr (by omega)⟩)
              go_roundw
              case rel => exact ⟨m + 1, _, _, rfl, by omega, by go_num, hG', hB'⟩
              case measure => simp [intOf]; omega
        · obtain rfl : m = k := by omega
          obtain ⟨Ar, cr, rfl⟩ := row_form HG.out.row
          go_wp2
          go_loop [9] (fun i => ∃ p : Nat, p ≤ m ∧ i = .int .i64 p) (fun i => m - (intOf i).toNat)
          case atStart => exact ⟨0, Nat.zero_le _, rfl⟩
          case round =>
            obtain ⟨p, hp, rfl⟩ := hrel
            by_cases hpm : p < m
            · have hpI : (p : Int) < (m : Int) := by omega
              obtain ⟨gr, cr', hvg⟩ : ∃ gr cr', Value.slice Ar m cr = .slice (some ⟨gr, 0, none⟩) m cr' := by
                rcases HG.out.row.2 with ⟨_, h0⟩ | ⟨g, cap, cu, h, _⟩
                · omega
                · exact ⟨g, cap, h⟩
              injection hvg with hA _ hc
              subst hA hc
              have hcr := HG.out.row.cellAt p (by omega)
              rw [List.getElem?_map, List.getElem?_range hpm] at hcr
              have hng := HG.out.new p hpm
              obtain ⟨gb, cg, hgs, -, -⟩ := hng.form (by rw [List.length_replicate]; omega)
              rw [List.length_replicate] at hgs
              rw [hgs] at hng
              simp only [Option.map_some, hgs] at hcr
              have hcv := head_cell HG.out.head (HC.out p hpm)
              have hov := HG.out.old p hpm
              obtain ⟨Av, cv, hvv⟩ := hov.bytes.form
              rw [List.length_replicate] at hvv
              rw [hvv] at hcv hov
              have hwr : IntKind.u8.wrap (p : Int) = (p : Int) := by rw [IntKind.wrap_u8']; omega
              obtain ⟨l, hl⟩ : ∃ l, L p = l := ⟨_, rfl⟩
              have hLp := HLM.out p hpm
              rw [hl] at hcr hng hcv hov hLp
              have HNG := Lib.hid hng
              have HOV := Lib.hid hov
              clear hgs hvv hl hng hov
              go_wp2
              go_loop [10] (fun i => ∃ q : Nat, q ≤ l + 5 ∧ i = .int .i64 q) (fun i => l + 5 - (intOf i).toNat)
              case atStart => exact ⟨0, Nat.zero_le _, rfl⟩
              case round =>
                obtain ⟨q, hq, rfl⟩ := hrel
                by_cases hql : q < l + 5
                · have hqI : (q : Int) < (l : Int) + 5 := by omega
                  have hcg := (HNG.out.cell (by simp) q hql).1
                  rw [replicate_getA _ _ _ hql] at hcg
                  by_cases hqo : q < l
                  · have hqoI : (q : Int) < (l : Int) := by omega
                    obtain ⟨gv, cv', hvv, -, -⟩ := HOV.out.form (by rw [List.length_replicate]; omega)
                    injection hvv with hA hx hc
                    clear hx
                    subst hA hc
                    have hco := (HOV.out.cell (by simp) q hqo).1
                    rw [replicate_getA _ _ _ hqo] at hco
                    go_wp2
                    go_round
                    case rel => exact ⟨q + 1, by omega, by go_num⟩
                    case measure => simp [intOf]; omega
                  · have hqoI : (l : Int) ≤ (q : Int) := by omega
                    go_wp2
                    go_round
                    case rel => exact ⟨q + 1, by omega, by go_num⟩
                    case measure => simp [intOf]; omega
                · obtain rfl : q = l + 5 := by omega
                  go_wp2
                  go_round
                  case rel => exact ⟨p + 1, by omega, by go_num⟩
                  case measure => simp [intOf]; omega
            · obtain rfl : p = m := by omega
              go_wp2
              go_ret
              exact ⟨rfl, hB⟩

end Go.Proofs.Ytlmohcmnoddncaa.Law
