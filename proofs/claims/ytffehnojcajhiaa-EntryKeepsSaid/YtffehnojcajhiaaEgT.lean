/-
  Contract of the document's CopyGraph.
-/
import Derived.Test.YtffehnojcajhiaaEgH
namespace Go.Proofs.Ytffehnojcajhiaa.Wire.Entry
open Go Go.RowKit Go.Proofs.Ytffehnojcajhiaa.Law

/-- append([]int{}, ..): the numbers anew. -/
theorem ints_copy {S : Nat → Prop} {W : World} {sv : Value} {zs : List Int} (hI : IntsAt S W sv zs) (hS : ∀ b, S b → b < W.heap.size) (hr : zs.length * 8 ≤ 140737488351232) (ty : TypeId) :
    ∃ v' W', (Builtin.append_ #[45, 45] ty #[.slice (some ⟨W.heap.size, 0, none⟩) 0 0, sv]).run Try.prog (W.alloc (.cells #[] 3)) = .ok v' W' ∧ OwnI W' W.heap.size v' zs ∧ Below W.heap.size W W' := by
  obtain ⟨i0, hi, hz0, hz1, hz2⟩ := info_parts info_int
  have hown : (W.alloc (.cells #[] 3)).ownsRow W.heap.size 3 1 (.slice (some ⟨W.heap.size, 0, none⟩) 0 0) 0 [] := World.ownsRow_lit W #[] 0 (Nat.le_refl _) (by simp [maxLen]) rfl
  have hB : Below W.heap.size W (W.alloc (.cells #[] 3)) := (Below.refl _ _).alloc (Nat.le_refl _) _
  obtain ⟨A, cap, rfl, hc, hn, hcell⟩ := hI
  cases A with
  | none =>
    have hz : zs = [] := by
      cases zs with
      | nil => rfl
      | cons z r => obtain ⟨b, off, he, _⟩ := hcell (by simp); cases he
    subst hz
    obtain rfl := hn rfl
    exact ⟨_, _, run_append_owned_none (P := Try.prog) (w := W.alloc (.cells #[] 3)) W.heap.size 45 ty 3 i0 1 Try.underlying45 hi _ 0 [] hown, hown, hB⟩
  | some a =>
    obtain ⟨v', W', hrun, h2, h3, _, _⟩ := run_append_own_at (P := Try.prog) (W.alloc (.cells #[] 3)) W.heap.size 45 ty 3 i0 _ 1 8 Try.underlying45 hi hz0 hz1 hz2 rfl (by decide) _ 0 [] hown a zs.length cap (ivals zs) (by simp [ivals])
      (fun j u hu => by
        have hj : j < zs.length := by have := (List.getElem?_eq_some_iff.1 hu).1; simpa [ivals] using this
        obtain ⟨b, off, he, hb, h4⟩ := hcell (by omega)
        obtain rfl : a = ⟨b, off, none⟩ := by simpa using he
        have hx : zs[j]? = some zs[j] := List.getElem?_eq_getElem hj
        have h5 := ivals_get hx
        rw [h5] at hu
        obtain rfl := Option.some.inj hu
        rw [Addr.add_lit]
        exact (hB.cell (p := ⟨b, off + j, none⟩) (hS b hb)).trans (h4 j _ hx))
      (fun u hu => by obtain ⟨z, _, rfl⟩ := List.mem_map.1 hu; rfl) (by simp only [maxLen]; omega) (by omega) (by simp)
    refine ⟨v', W', hrun, ?_, hB.grown h3 (by simp) (fun k hk => by simp only [Value.ownBlock, Option.some.injEq] at hk; omega)⟩
    show W'.ownsRow _ _ _ _ _ _
    rw [Nat.zero_add, List.nil_append] at h2
    exact h2

/-- What lies as the graph is copied. -/
structure CpG (w W : World) (b : Nat) (v : Value) (A : Option Addr) (n c : Nat) (ops : List Opr) : Prop where
  low : Below b w W
  arg : W.heap[b]? = some (.cells #[v] 27)
  res : W.heap[b + 1]? = some Z1
  box : W.heap[b + 1 + 1]? = some (.cells #[.slice A n c] 27)
  grow : GrowO (b + 1 + 1 + 1) W (.slice A n c) ops

/-- A graph that was copied. -/
def RetCopy (w : World) (ops : List Opr) (e : Ending) (W : World) : Prop :=
  ∃ (A : Option Addr) (n c : Nat), e = .returned (.agg #[.slice A n c]) ∧ OpsAt (fun k => w.heap.size ≤ k ∧ k < W.heap.size) W (.slice A n c) ops ∧ Below w.heap.size w W

set_option maxRecDepth 100000 in
set_option maxHeartbeats 800000 in
theorem copyGraph_calls (ops : List Opr) (hl : ops.length * 72 ≤ 140737488351232) (hin : ∀ x ∈ ops, x.ins.length * 8 ≤ 140737488351232) (v : Value) (w : World) (hI : OldO w.heap.size w v ops) : Calls Try.prog 16 #[.agg #[v]] w (RetCopy w ops) := by
  obtain ⟨A, cap, rfl, _⟩ := hI.form
  obtain ⟨n, hn⟩ : ∃ n, ops.length = n := ⟨_, rfl⟩
  rw [hn] at hI ⊢
  obtain ⟨b, hb⟩ : ∃ b, w.heap.size = b := ⟨_, rfl⟩
  have hstart : CpG w (((w.alloc (.cells #[.slice A n cap] 27)).alloc Z1).alloc Z1) b (.slice A n cap) none 0 0 (ops.take 0) := by
    subst hb
    have e1 := heap_alloc_new w (.cells #[.slice A n cap] 27)
    have e2 := heap_alloc_new (w.alloc (.cells #[.slice A n cap] 27)) Z1
    have e3 := heap_alloc_new ((w.alloc (.cells #[.slice A n cap] 27)).alloc Z1) Z1
    simp only [World.size_alloc] at e2 e3
    refine ⟨(((Below.refl _ _).alloc (Nat.le_refl _) _).alloc (by simp) _).alloc (by simp; omega) _, ?_, ?_, e3, GrowO.nil _ _⟩
    · exact (Below.heap_alloc _ _ _ (by simp; omega)).trans ((Below.heap_alloc _ _ _ (by simp)).trans e1)
    · exact (Below.heap_alloc _ _ _ (by simp)).trans e2
  have HST := Lib.hid hstart
  have HI := Lib.hid hI
  have HBB := Lib.hid hb
  have HN := Lib.hid hn
  have HL := Lib.hid hl
  have HIN := Lib.hid hin
  have hnn : n * 72 ≤ 140737488351232 := by rw [← hn]; exact hl
  clear hI hstart hb hn hl hin
  go_enter Try.func16, Try.ntmps16
  go_wp2_with fail
  rw [HBB.out]
  go_loopw [4] (fun i wr => ∃ k : Nat, i = .int .i64 k ∧ k ≤ n ∧ Hid (∃ A' n' c, CpG w wr b (.slice A n cap) A' n' c (ops.take k))) (fun i _ => n - (intOf i).toNat)
  case atStart => exact ⟨0, rfl, Nat.zero_le _, Lib.hid ⟨_, _, _, HST.out⟩⟩
  case round =>
    obtain ⟨k, rfl, hk, hR⟩ := hrel
    obtain ⟨A', n', c, hR⟩ := hR.out
    have hgw := lt_of_some hR.box
    have HR := Lib.hid hR
    obtain ⟨v0, vf⟩ := box1 hR.arg
    clear hR
    by_cases hlt : k < n
    · obtain ⟨y, hy⟩ : ∃ y, ops[k]? = some y := ⟨_, List.getElem?_eq_getElem (by rw [HN.out]; exact hlt)⟩
      have hly := HIN.out y (List.mem_of_getElem? hy)
      have hIw : OldO w.heap.size wr (.slice A n cap) ops := OpsAt.low (by rw [HBB.out]; exact HR.out.low) HI.out
      obtain ⟨jb, jo, rfl, hjb, hcells⟩ := hIw.at (by omega)
      obtain ⟨uy, ⟨y0, y1, y2, y3, y4, y5, y6⟩, hiy⟩ := hcells k y hy
      obtain ⟨Ay, cy, rfl, _⟩ := hiy.form
      have hjw : jb < wr.heap.size := by have := HBB.out; omega
      obtain ⟨p, hp⟩ : ∃ p, wr.heap.size = p := ⟨_, rfl⟩
      obtain ⟨ly, hyl⟩ : ∃ ly, y.ins.length = ly := ⟨_, rfl⟩
      rw [hyl] at y1 hiy
      have hBa := (Below.refl wr.heap.size wr).alloc (Nat.le_refl _) (.cells #[.int .i64 y.kind, .slice Ay ly cy, .int .i64 y.arg, .int .u32 (y.num : Nat), .int .i64 y.rounds, .int .i64 y.test, .int .u32 (y.lim : Nat)] 47)
      have hpx := heap_alloc_new wr (.cells #[.int .i64 y.kind, .slice Ay ly cy, .int .i64 y.arg, .int .u32 (y.num : Nat), .int .i64 y.rounds, .int .i64 y.test, .int .u32 (y.lim : Nat)] 47)
      have hIa := hiy.keep (T := fun z => z < p) (fun z hz => hBa.block z (by have := HBB.out; omega)) (fun z hz => by have := HBB.out; omega)
      obtain ⟨v1, W1, hrun, hO1, hB1⟩ := ints_copy hIa (fun z hz => by simp; omega) hly 45
      obtain ⟨A1, c1, rfl, _⟩ := hO1.form
      rw [hyl] at hrun hO1
      have hpW : wr.heap.size + 1 ≤ W1.heap.size := by have := hB1.size; simpa using this
      have HB := Lib.hid hBa
      have HPX := Lib.hid hpx
      have HO1 := Lib.hid hO1
      have HB1 := Lib.hid hB1
      have HY := Lib.hid hy
      have HLT := Lib.hid hlt
      have HP := Lib.hid hp
      rw [World.size_alloc] at hrun
      have HRUN := Lib.hid hrun
      clear hBa hpx hIa hrun hO1 hB1 hy hcells hiy hIw hly hp hyl
      obtain ⟨⟨b0, b1, b2, b3, b4, b5, b6⟩, ⟨f0, f1, f2, f3, f4, f5, f6⟩⟩ := box7 ((HB1.out.block wr.heap.size (by simp)).trans HPX.out)
      have hkW : ∀ j, j < wr.heap.size → W1.heap[j]? = wr.heap[j]? := fun j hj => (HB1.out.block j (by simp; omega)).trans (HB.out.block j hj)
      obtain ⟨g0, gf⟩ := box1 ((hkW (b + 1 + 1) hgw).trans HR.out.box)
      have hgW : b + 1 + 1 < W1.heap.size := by omega
      have hpW' : wr.heap.size < W1.heap.size := by omega
      have hsz : (W1.setCell ⟨wr.heap.size, 1, none⟩ (.slice A1 ly c1)).heap.size = W1.heap.size := by simp [World.setCell]
      have hk2 : ∀ j, j < wr.heap.size → (W1.setCell ⟨wr.heap.size, 1, none⟩ (.slice A1 ly c1)).heap[j]? = wr.heap[j]? := fun j hj => (Below.heap_setCell _ _ _ _ (by show j ≠ wr.heap.size; omega)).trans (hkW j hj)
      have hG2 : GrowO (b + 1 + 1 + 1) (W1.setCell ⟨wr.heap.size, 1, none⟩ (.slice A1 ly c1)) (.slice A' n' c) (ops.take k) := HR.out.grow.keep (fun j _ hj => hk2 j hj) (by omega)
      have hown := fun (j : Nat) (hj : (Value.slice A' n' c).ownBlock = some j) => HR.out.grow.own hj
      have hint : IntsAt (fun j => b + 1 + 1 + 1 ≤ j ∧ j < (W1.setCell ⟨wr.heap.size, 1, none⟩ (.slice A1 ly c1)).heap.size ∧ (Value.slice A' n' c).ownBlock ≠ some j) (W1.setCell ⟨wr.heap.size, 1, none⟩ (.slice A1 ly c1)) (.slice A1 ly c1) y.ins :=
        HO1.out.ints.keep (fun j hj => Below.heap_setCell _ _ _ _ (by have := hj.1; simp at this; show j ≠ wr.heap.size; omega)) (fun j hj => ⟨by have := hj.1; simp at this; omega, by have := hj.2; omega, fun e => by have h1 := hown j e; have := hj.1; simp at this; omega⟩)
      have hlen : (ops.take k).length ≤ n := by rw [List.length_take]; omega
      obtain ⟨v2, W2, hrun2, hG3, hgr, hB2⟩ := hG2.append (by omega) y A1 ly c1 hint 25 (by omega)
      obtain ⟨A2, c2, hv2, _⟩ := hG3.form
      obtain ⟨m2, hm2⟩ : ∃ m2, (ops.take k ++ [y]).length = m2 := ⟨_, rfl⟩
      rw [hm2] at hv2
      subst hv2
      have hs2 : W1.heap.size ≤ W2.heap.size := by have := hgr.size; omega
      have hk3 : ∀ j, j ≤ b + 1 + 1 → W2.heap[j]? = wr.heap[j]? := fun j hj => (hB2.block j (by omega)).trans (hk2 j (by omega))
      have hbx : W2.heap[b + 1 + 1]? = _ := (hk3 _ (Nat.le_refl _)).trans HR.out.box
      obtain ⟨gc, gf'⟩ := box1 hbx
      have hlow : Below b w W2 := HR.out.low.trans (((HB.out.trans (HB1.out.mono (by simp))).mono (by omega) |>.setCell (p := ⟨wr.heap.size, 1, none⟩) (by show b ≤ wr.heap.size; omega) (.slice A1 ly c1)).trans (hB2.mono (by omega)))
      have hnext : CpG w (W2.setCell ⟨b + 1 + 1, 0, none⟩ (.slice A2 m2 c2)) b (.slice (some ⟨jb, jo, none⟩) n cap) A2 m2 c2 (ops.take (k + 1)) := by
        refine ⟨hlow.setCell (p := ⟨b + 1 + 1, 0, none⟩) (by show b ≤ b + 1 + 1; omega) _, ?_, ?_, stored1 hbx _, ?_⟩
        · exact (Below.heap_setCell _ _ _ _ (by show b ≠ b + 1 + 1; omega)).trans ((hk3 b (by omega)).trans HR.out.arg)
        · exact (Below.heap_setCell _ _ _ _ (by show b + 1 ≠ b + 1 + 1; omega)).trans ((hk3 (b + 1) (by omega)).trans HR.out.res)
        · rw [take_snoc HY.out]
          exact hG3.keep (fun j hj _ => Below.heap_setCell _ _ _ _ (by show j ≠ b + 1 + 1; omega)) (by simp [World.setCell])
      rw [hsz] at hrun2
      have HNX := Lib.hid hnext
      have HRUN2 := Lib.hid hrun2
      clear hkW hk2 hG2 hint hrun2 hG3 hgr hB2 hk3 hbx hlow hnext hown hsz hm2
      go_wp2_with (at_builtin; (first | refine wpList_append_ran rfl _ _ _ rfl rfl rfl HRUN.out ?_ | refine wpList_append_ran rfl _ _ _ rfl rfl rfl HRUN2.out ?_))
      go_roundw
      case rel => exact ⟨k + 1, by go_num, by have := HLT.out; omega, Lib.hid ⟨_, _, _, HNX.out⟩⟩
      case measure => have := HLT.out; simp [intOf]; omega
    · obtain rfl : k = n := by omega
      have hR := HR.out
      rw [List.take_of_length_le (by rw [HN.out]; exact Nat.le_refl _)] at hR
      obtain ⟨gc, gf⟩ := box1 hR.box
      obtain ⟨bc, bf⟩ := box1 hR.res
      have hfin := stored1 hR.res (.slice A' n' c)
      have hBf := hR.low.setCell (p := ⟨b + 1, 0, none⟩) (by show b ≤ b + 1; omega) (.slice A' n' c)
      have hops : OpsAt (fun j => b ≤ j ∧ j < (wr.setCell ⟨b + 1, 0, none⟩ (.slice A' n' c)).heap.size) (wr.setCell ⟨b + 1, 0, none⟩ (.slice A' n' c)) (.slice A' n' c) ops :=
        hR.grow.ops.keep (fun j hj => Below.heap_setCell _ _ _ _ (by show j ≠ b + 1; omega)) (fun j hj => ⟨by omega, by have := hj.2; simpa [World.setCell] using this⟩)
      have HF := Lib.hid hfin
      have HBF := Lib.hid hBf
      have HOPS := Lib.hid hops
      have hgw1 : b + 1 < wr.heap.size := by omega
      clear hfin hBf hops hR HR
      go_wp2_with fail
      have hfin := HF.out
      have hBf := HBF.out
      have hops := HOPS.out
      clear HF HBF HOPS gc gf bc bf
      generalize (wr.setCell ⟨b + 1, 0, none⟩ (.slice A' n' c)) = W at hfin hBf hops ⊢
      obtain ⟨p0, _⟩ := box1 hfin
      exact bodyPost_ret (v := .agg #[.slice A' n' c]) (by simp [results, Try.results16, go_sem, p0]) rfl ⟨A', n', c, rfl, by rw [HBB.out]; exact hops, by rw [HBB.out]; exact hBf⟩

end Go.Proofs.Ytffehnojcajhiaa.Wire.Entry
