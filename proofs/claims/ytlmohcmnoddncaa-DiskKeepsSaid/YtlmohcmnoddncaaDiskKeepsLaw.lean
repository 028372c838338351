/-
  The walk of the law DiskKeeps: whatever the bytes and the picks, it returns true and nothing that lay has turned.
-/
import Derived.Test.YtlmohcmnoddncaaDiskKeepsMath
import Derived.Deep.QuietTactic
import Derived.BigQuiet
import Derived.WalkSmall
import Derived.Lib.QuietBelow
namespace Go.Proofs.Ytlmohcmnoddncaa.Disk
open Go Go.RowKit Go.Sort Go.Lib Go.Proofs.Ytlmohcmnoddncaa.Law

theorem ownB_on {Fr : Nat → Prop} {W W' : World} {base : Nat} {e : TypeId} {v : Value} {bs : List Nat} (h : OwnB W base e v bs) (hs : SameOn Fr W W') (hf : ∀ g, v.ownBlock = some g → Fr g) : OwnB W' base e v bs   := ownB_keepB h fun g hg => hs.1 g (hf g hg)
theorem OwnI.on {Fr : Nat → Prop} {W W' : World} {base : Nat} {v : Value} {zs : List Int} (h : OwnI W base v zs) (hs : SameOn Fr W W') (hf : ∀ g, v.ownBlock = some g → Fr g) : OwnI W' base v zs := h.keep fun g hg => hs.1 g (hf g hg)
theorem OwnI.below {W W' : World} {base : Nat} {v : Value} {zs : List Int} (h : OwnI W base v zs) (hB : Below W.heap.size W W') : OwnI W' base v zs := h.keep fun g hg => hB.block g (h.own g hg).2
theorem ownB_blk {W : World} {base : Nat} {e : TypeId} {v : Value} {bs : List Nat} (h : OwnB W base e v bs) : ∀ g, v.ownBlock = some g → base ≤ g ∧ g < W.heap.size := fun g hg => h.1.lt g hg

/-- The blocks that the law has made between two worlds. -/
def Btw (a b : Nat) : Nat → Prop := fun k => a ≤ k ∧ k < b

theorem Dx.mono {Fr Fr' : Nat → Prop} {w W : World} {db : Nat} {D : DS} (h : Dx Fr w db D W) (hf : ∀ k, Fr' k → Fr k) : Dx Fr' w db D W := by
  obtain ⟨O, h1, h2, h3, h4, h5⟩ := h
  exact ⟨O, h1, h2, h3, h4, fun k hk => h5 k (hf k hk)⟩

/-- The front of a row of the call's own. -/
theorem ownB_front {W : World} {base g len cap : Nat} {e : TypeId} {bs : List Nat} (h : OwnB W base e (.slice (some ⟨g, 0, none⟩) len cap) bs) (k : Nat) (hk : k ≤ len) (hl : bs.length = len) : OwnB W base e (.slice (some ⟨g, 0, none⟩) k cap) (bs.take k) := by
  subst hl
  have hlk : (bs.take k).length = k := by rw [List.length_take]; omega
  refine ⟨⟨by rw [vals_length, Nat.mul_one], ?_⟩, fun x hx => h.2 x (List.mem_of_mem_take hx)⟩
  rcases h.1.2 with ⟨hv, _⟩ | ⟨g', cap', cur, hv, hb, hg, hn, hc, hs, ht⟩
  · cases hv
  · simp only [Value.slice.injEq, Option.some.injEq, Addr.mk.injEq, and_true, true_and] at hv
    obtain ⟨rfl, rfl⟩ := hv
    refine .inr ⟨g, cap, cur, by rw [hlk], hb, hg, by omega, hc, hs, ?_⟩
    rw [hlk]
    have h1 : cur.toList.take (k * 1) = (cur.toList.take (bs.length * 1)).take k := by rw [List.take_take]; congr 1; omega
    rw [h1, ht]
    simp [vals, List.map_take]

/-- What stands behind the first byte. -/
theorem bytes_tail {m : Nat} {W : World} {b o len cap : Nat} {bs : List Nat} (h : Bytes m W (.slice (some ⟨b, o, none⟩) len cap) bs) (hl2 : bs.length = len) (h1 : 1 ≤ len) : Bytes m W (.slice (some ⟨b, o + 1, none⟩) (len - 1) (cap - 1)) (bs.drop 1) := by
  subst hl2
  obtain ⟨A, cap', hv, hc, _, h256, hcell⟩ := h
  simp only [Value.slice.injEq] at hv
  obtain ⟨rfl, _, rfl⟩ := hv
  obtain ⟨b', o', he, hb, hcs⟩ := hcell (by omega)
  simp only [Option.some.injEq, Addr.mk.injEq, and_true] at he
  obtain ⟨rfl, rfl⟩ := he
  have hl : (bs.drop 1).length = bs.length - 1 := List.length_drop
  refine ⟨_, cap - 1, by rw [hl], by rw [hl]; omega, (fun h => by cases h), fun x hx => h256 x (List.mem_of_mem_drop hx), fun _ => ⟨b, o + 1, rfl, hb, fun j hj => ?_⟩⟩
  have := hcs (j + 1) (by omega)
  have e : (bs.drop 1).getD j 0 = bs.getD (j + 1) 0 := by simp [List.getD]
  rw [e, show o + 1 + j = o + (j + 1) by omega]
  exact this

/-- Five values by their numbers. -/
def five {α : Type} (x0 x1 x2 x3 x4 : α) : Nat → α
  | 0 => x0
  | 1 => x1
  | 2 => x2
  | 3 => x3
  | _ => x4
theorem below_five {j : Nat} (h : j < 5) : j = 0 ∨ j = 1 ∨ j = 2 ∨ j = 3 ∨ j = 4 := by omega
theorem distinct_keeps {x0 x1 x2 x3 x4 : Value} {b2 b3 bA b6 b7 b8 b9 b10 : Nat} (R4 : ∀ b, x4.ownBlock = some b → b2 ≤ b ∧ b < b3) (R0 : ∀ b, x0.ownBlock = some b → bA ≤ b ∧ b < b6) (R1 : ∀ b, x1.ownBlock = some b → b6 ≤ b ∧ b < b7) (R2 : ∀ b, x2.ownBlock = some b → b8 ≤ b ∧ b < b9)
    (R3 : ∀ b, x3.ownBlock = some b → b9 ≤ b ∧ b < b10) (_ : b2 ≤ b3) (h2 : b3 ≤ bA) (h3 : bA ≤ b6) (h4 : b6 ≤ b7) (h5 : b7 ≤ b8) (h6 : b8 ≤ b9) (_ : b9 ≤ b10) (_ : b2 ≤ b10) : Distinct 5 (five x0 x1 x2 x3 x4) := by
  intro i j hi hj hne b k1 k2
  rcases below_five hi with rfl | rfl | rfl | rfl | rfl <;> rcases below_five hj with rfl | rfl | rfl | rfl | rfl <;> first
    | exact hne rfl
    | (simp only [five] at k1 k2
       first
         | (have := R0 b k1; have := R1 b k2; omega)
         | (have := R1 b k1; have := R0 b k2; omega)
         | (have := R0 b k1; have := R2 b k2; omega)
         | (have := R2 b k1; have := R0 b k2; omega)
         | (have := R0 b k1; have := R3 b k2; omega)
         | (have := R3 b k1; have := R0 b k2; omega)
         | (have := R0 b k1; have := R4 b k2; omega)
         | (have := R4 b k1; have := R0 b k2; omega)
         | (have := R1 b k1; have := R2 b k2; omega)
         | (have := R2 b k1; have := R1 b k2; omega)
         | (have := R1 b k1; have := R3 b k2; omega)
         | (have := R3 b k1; have := R1 b k2; omega)
         | (have := R1 b k1; have := R4 b k2; omega)
         | (have := R4 b k1; have := R1 b k2; omega)
         | (have := R2 b k1; have := R3 b k2; omega)
         | (have := R3 b k1; have := R2 b k2; omega)
         | (have := R2 b k1; have := R4 b k2; omega)
         | (have := R4 b k1; have := R2 b k2; omega)
         | (have := R3 b k1; have := R4 b k2; omega)
         | (have := R4 b k1; have := R3 b k2; omega))

/-- The law's own slices. -/
def Bun (ds bs : List Nat) (picks : List Int) (b2 b3 b5 b6 b8 b9 : Nat) (vi vp va vb vc ve : Value) (W : World) : Prop :=
  OwnB W b2 5 vi bs ∧ OwnI W b3 vp picks ∧ OwnB W b5 5 va ds ∧ OwnB W b6 5 vb ds ∧ OwnB W b8 5 vc ds ∧ OwnB W b9 5 ve ds
section
variable {ds bs : List Nat} {picks : List Int} {b2 b3 b5 b6 b8 b9 : Nat} {vi vp va vb vc ve : Value} {W W' : World}
theorem Bun.below (h : Bun ds bs picks b2 b3 b5 b6 b8 b9 vi vp va vb vc ve W) (hB : Below W.heap.size W W') : Bun ds bs picks b2 b3 b5 b6 b8 b9 vi vp va vb vc ve W' :=
  ⟨h.1.below hB, h.2.1.below hB, h.2.2.1.below hB, h.2.2.2.1.below hB, h.2.2.2.2.1.below hB, h.2.2.2.2.2.below hB⟩
theorem Bun.on {Fr : Nat → Prop} (h : Bun ds bs picks b2 b3 b5 b6 b8 b9 vi vp va vb vc ve W) (hs : SameOn Fr W W') (hf : ∀ g, (vi.ownBlock = some g ∨ vp.ownBlock = some g ∨ va.ownBlock = some g ∨ vb.ownBlock = some g ∨ vc.ownBlock = some g ∨ ve.ownBlock = some g) → Fr g) : Bun ds bs picks b2 b3 b5 b6 b8 b9 vi vp va vb vc ve W' :=
  ⟨ownB_on h.1 hs fun g hg => hf g (.inl hg), h.2.1.on hs fun g hg => hf g (.inr (.inl hg)), ownB_on h.2.2.1 hs fun g hg => hf g (.inr (.inr (.inl hg))), ownB_on h.2.2.2.1 hs fun g hg => hf g (.inr (.inr (.inr (.inl hg)))),
    ownB_on h.2.2.2.2.1 hs fun g hg => hf g (.inr (.inr (.inr (.inr (.inl hg))))), ownB_on h.2.2.2.2.2 hs fun g hg => hf g (.inr (.inr (.inr (.inr (.inr hg)))))⟩
end

set_option maxRecDepth 100000 in
set_option maxHeartbeats 8000000 in
theorem diskKeeps_law (sv : Value) (ds : List Nat) (hreach : ds.length ≤ 140737488351232) (pv : Value) (picks : List Int) (hpl : picks.length * 8 ≤ 140737488355328) (hnil : ∀ c, pv = .slice none picks.length c → c = 0)
    (w : World) (hI : Bytes w.heap.size w sv ds) (hP : Ints (fun b => b < w.heap.size) w pv picks) :
    Calls Try.prog 6 #[sv, pv] w fun e W' => e = .returned (.bool true) ∧ Below w.heap.size w W' := by
  have kc := fun (w : World) (C : Array Value) (n c : Nat) => Lib.run_convert_bytes_const (P := Try.prog) w 34 5 C n c Try.underlying34 Try.underlying5
  obtain ⟨A, cap, rfl⟩ := hI.form
  obtain ⟨PA, pc, rfl, _⟩ := id hP
  obtain ⟨n, hn⟩ : ∃ n, ds.length = n := ⟨_, rfl⟩
  obtain ⟨pl, hpl2⟩ : ∃ pl, picks.length = pl := ⟨_, rfl⟩
  have HN := Lib.hid hn
  have HPL := Lib.hid hpl2
  have HI := Lib.hid hI
  have HP := Lib.hid hP
  have HNIL := Lib.hid hnil
  rw [hn] at HI hreach ⊢
  rw [hpl2] at HP HNIL hpl ⊢
  clear hI hP hnil hn hpl2
  go_enter Try.func6, Try.ntmps6
  go_wp2_with fail
  refine (known_law _).mono ?_
  rintro e w1 ⟨rfl, hB1⟩
  have HB1 := Lib.hid hB1
  clear hB1
  go_wp2_with fail
  refine (new_dk 1048576 (by decide) w _ HB1.out).mono ?_
  rintro e w2 ⟨db, rfl, hD⟩
  have HD := Lib.hid hD
  clear hD HB1
  by_cases hbig : (524288 : Int) < (n : Int)
  · have HL := Lib.hid HD.out.low
    clear HD
    go_wp2_with fail
    go_ret
    exact ⟨rfl, HL.out⟩
  · have hsm : n ≤ 524288 := by omega
    obtain ⟨D1, D2, D3, D4, hk⟩ := keepsD ds (by rw [HN.out]; exact hsm) HI.out.lt picks
    have HKD := Lib.hid hk
    have CR := Lib.hid (room_calls (.slice A n cap) ds (by rw [HN.out]; exact hreach) w2 ((HI.out.below HD.out.low).more HD.out.size))
    clear hk
    go_wp2_with fail
    refine CR.out.mono ?_
    rintro e w3 ⟨g3, c3, rfl, hO3, hB3⟩
    have hl3 : (ds ++ [171, 172, 173]).length = ds.length + 3 := by simp
    rw [HN.out] at hO3 ⊢
    -- the numbers anew
    have hB3e : Below w3.heap.size w3 (w3.alloc (.cells #[] 3)) := (Below.refl _ _).alloc (Nat.le_refl _) _
    have hown0 : OwnI (w3.alloc (.cells #[] 3)) w3.heap.size (.slice (some ⟨w3.heap.size, 0, none⟩) 0 0) [] := World.ownsRow_lit w3 #[] 0 (Nat.le_refl _) (by simp [maxLen]) rfl
    have hBw3 : Below w.heap.size w w3 := HD.out.low.trans (hB3.mono HD.out.size)
    have hP3 : Ints (fun b => b < w.heap.size) (w3.alloc (.cells #[] 3)) (.slice PA pl pc) picks := HP.out.at fun b hb => (hB3e.block b (Nat.lt_of_lt_of_le hb hBw3.size)).trans (hBw3.block b hb)
    obtain ⟨v4, w4, hrun, hO4, hg4⟩ := run_append_ints 35 hown0 hP3 (by intro c hc; rw [HPL.out] at hc; exact HNIL.out c hc) (by rw [HPL.out]; exact hpl) (by simp)
    obtain ⟨PA4, pc4, rfl⟩ := hO4.form
    rw [HPL.out] at hrun hO4
    have hB4 : Below w3.heap.size w3 w4 := hB3e.grown hg4 hB3e.size (fun k e => by cases e; exact Nat.le_refl _)
    have HRUN := Lib.hid hrun
    have hDx := (Dx.of HD.out).add (hB3.trans (hB4.mono hB3.size))
    have hDx : Dx (Btw w2.heap.size w4.heap.size) w db (DS.fresh 1048576) w4 := hDx.mono fun k hk => .inr hk
    have hO34 := hO3.below hB4
    have hF4 := hO34.front n (by omega) (by rw [hl3, HN.out])
    rw [List.take_left' HN.out] at hF4
    have CW := hDx.write (by decide) nameA (by decide) 0 (by decide) (.slice (some ⟨g3, 0, none⟩) n c3) ds (by rw [HN.out]; omega) hF4
    rw [HKD.out.w1, HKD.out.e1] at CW
    have CWW := Lib.hid CW
    have HO3 := Lib.hid hO34
    have HO4 := Lib.hid hO4
    have hs3 := hB3.size
    have hs4 := hB4.size
    have hr3 := ownB_blk hO3
    have hr4 := hO4.own
    have HR3 := Lib.hid (And.intro hr3 hr4)
    clear CR hO3 hB3 hB3e hown0 hBw3 hP3 hrun hO4 hg4 hB4 hDx hO34 hF4 CW HD hl3 hr3 hr4
    go_wp2_with (first | (at_builtin; refine wpList_append_ran rfl _ _ _ rfl rfl rfl HRUN.out ?_))
    refine CWW.out.mono ?_
    rintro e w5 ⟨rfl, hD5, hs5⟩
    have hO5 := ownB_on HO3.out hs5 (fun g hg => by have := HR3.out.1 g hg; exact ⟨this.1, by omega⟩)
    have hP5 := HO4.out.on hs5 (fun g hg => by have := HR3.out.2 g hg; exact ⟨by omega, this.2⟩)
    have hw45 := hs5.2
    have CK := kept_true (.slice A n cap) ds (by rw [HN.out]; exact hreach) w5 w2.heap.size g3 c3 (by rw [HN.out]; exact hO5) ((HI.out.below hD5.low).more hD5.low.size)
    rw [HN.out] at CK
    have CKK := Lib.hid CK
    have HD5 := Lib.hid hD5
    have HO5 := Lib.hid hO5
    have HP5 := Lib.hid hP5
    clear CWW hD5 hs5 hO5 hP5 CK HO3 HO4 HRUN
    go_wp2_with fail
    refine CKK.out.mono ?_
    rintro e W ⟨rfl, rfl⟩
    clear CKK
    go_wp2_with fail
    go_loopw [9] (fun i wr => ∃ k : Nat, i = .int .i64 k ∧ k ≤ n ∧ Hid (∃ bs : List Nat, bs.length = n + 3 ∧ OwnB wr w2.heap.size 5 (.slice (some ⟨g3, 0, none⟩) (n + 3) c3) bs ∧ OwnI wr w3.heap.size (.slice PA4 pl pc4) picks ∧ Dx (Btw w2.heap.size w4.heap.size) w db D1 wr) ∧ W.heap.size ≤ wr.heap.size) (fun i _ => n - (intOf i).toNat)
    case atStart => exact ⟨0, rfl, Nat.zero_le _, Lib.hid ⟨_, by simp [HN.out], HO5.out, HP5.out, HD5.out⟩, Nat.le_refl _⟩
    case round =>
      obtain ⟨k, rfl, hk, HS, hsz⟩ := hrel
      have hg3 : w2.heap.size ≤ g3 ∧ g3 < w3.heap.size := HR3.out.1 g3 rfl
      by_cases hlt : k < n
      · obtain ⟨bs, hbl, hO, hP, hD⟩ := HS.out
        obtain ⟨c0, z0⟩ := hO.cell hbl k (by omega)
        have hcap := hO.capOk hbl
        have hx : bs.getD k 0 < 256 := by
          have := hO.2 (bs[k]'(by omega)) (List.getElem_mem _)
          simpa [List.getD, show k < bs.length by omega] using this
        obtain ⟨x, hx2⟩ : ∃ x, bs.getD k 0 = x := ⟨_, rfl⟩
        rw [hx2] at c0 hx
        obtain ⟨y, hy, hy2⟩ : ∃ y : Nat, IntKind.u8.wrap ((x : Int) + 1) = (y : Int) ∧ y < 256 := ⟨(x + 1) % 256, by unfold IntKind.wrap; simp [IntKind.signed, IntKind.bits], Nat.mod_lt _ (by decide)⟩
        have hst := hO.store hbl k y hy2
        have hset : ∀ j, j ≠ g3 → (wr.setCell ⟨g3, k, none⟩ (.int .u8 (y : Nat))).heap[j]? = wr.heap[j]? := fun j hj => Below.heap_setCell _ _ _ _ hj
        have hszz : wr.heap.size ≤ (wr.setCell ⟨g3, k, none⟩ (.int .u8 (y : Nat))).heap.size := by simp [World.setCell]
        have HS2 : Hid ((∃ bs : List Nat, bs.length = n + 3 ∧ OwnB (wr.setCell ⟨g3, k, none⟩ (.int .u8 (y : Nat))) w2.heap.size 5 (.slice (some ⟨g3, 0, none⟩) (n + 3) c3) bs ∧ OwnI (wr.setCell ⟨g3, k, none⟩ (.int .u8 (y : Nat))) w3.heap.size (.slice PA4 pl pc4) picks ∧ Dx (Btw w2.heap.size w4.heap.size) w db D1 (wr.setCell ⟨g3, k, none⟩ (.int .u8 (y : Nat)))) ∧ W.heap.size ≤ (wr.setCell ⟨g3, k, none⟩ (.int .u8 (y : Nat))).heap.size) :=
          Lib.hid ⟨⟨_, by rw [List.length_set]; exact hbl, hst, hP.keep fun g hg => hset g (by have := (hP.own g hg).1; omega), hD.turn hszz (fun j _ hj => hset j (fun e => hj (by rw [e]; exact ⟨hg3.1, by omega⟩))) rfl rfl rfl⟩, Nat.le_trans hsz hszz⟩
        have hkI : (k : Int) < (n : Int) := by omega
        have hcI : (n : Int) + 3 ≤ (c3 : Int) := by omega
        clear hst hset hszz hO hP hD hx2 hbl hcap HS
        go_wp2_with fail
        go_roundw
        case rel => exact ⟨k + 1, by go_num, by omega, Lib.hid HS2.out.1, HS2.out.2⟩
        case measure => simp [intOf]; omega
      · obtain rfl : k = n := by omega
        clear hlt
        obtain ⟨wA, rfl⟩ : ∃ x, x = wr := ⟨_, rfl⟩
        have CA := HS.out.choose_spec.2.2.2.read nameA short_a
        rw [HKD.out.now1] at CA
        have CAA := Lib.hid CA
        clear CA
        go_wp2_with fail
        refine CAA.out.mono ?_
        clear CAA
        rintro e w6 ⟨va, rfl, hO6, hB6⟩
        have hO6 : OwnB w6 wA.heap.size 5 va ds := hO6
        obtain ⟨Aa, ca, hva⟩ := hO6.bytes.form
        rw [HN.out] at hva
        subst hva
        have hs6 := hB6.size
        have HB6 := Lib.hid hB6
        have HO6 := Lib.hid hO6
        have HRA := Lib.hid (ownB_blk hO6)
        have CB := (HS.out.choose_spec.2.2.2.below hB6).read nameA short_a
        rw [HKD.out.now1] at CB
        have CBB := Lib.hid CB
        clear hB6 hO6 CB
        go_wp2_with fail
        refine CBB.out.mono ?_
        clear CBB
        rintro e w7 ⟨vb, rfl, hO7, hB7⟩
        have hO7 : OwnB w7 w6.heap.size 5 vb ds := hO7
        obtain ⟨Ab, cb, hvb⟩ := hO7.bytes.form
        rw [HN.out] at hvb
        subst hvb
        have hs7 := hB7.size
        have HB7 := Lib.hid (HB6.out.trans (hB7.mono HB6.out.size))
        have HO67 := Lib.hid (HO6.out.below hB7)
        have HO7 := Lib.hid hO7
        have HRB := Lib.hid (ownB_blk hO7)
        have hD7 := (HS.out.choose_spec.2.2.2.add HB7.out).mono (Fr' := fun k => Btw w2.heap.size w4.heap.size k ∨ Btw wA.heap.size w7.heap.size k) (fun k hk => hk)
        have CS := Lib.hid (same_true _ _ ds w7 HO67.out.bytes ((HI.out.below hD7.low).more hD7.low.size))
        have CY := hD7.sync nameA (by decide)
        rw [HKD.out.s1, HKD.out.e2] at CY
        have CYY := Lib.hid CY
        clear hB7 hO7 hD7 CY HO6
        go_wp2_with fail
        refine CS.out.mono ?_
        rintro e W7 ⟨rfl, rfl⟩
        clear CS
        go_wp2_with fail
        refine CYY.out.mono ?_
        clear CYY
        rintro e w8 ⟨rfl, hD8, hs8⟩
        obtain ⟨bs, hbl, hO, hP, -⟩ := HS.out
        have hI8 := ownB_on (hO.below HB7.out) hs8 (fun g hg => by have := (HR3.out.1 g hg); exact .inl ⟨this.1, by omega⟩)
        have hP8 := (hP.below HB7.out).on hs8 (fun g hg => by have := (HR3.out.2 g hg); exact .inl ⟨by omega, this.2⟩)
        have hA8 := ownB_on HO67.out hs8 (fun g hg => by have := (HRA.out g hg); exact .inr ⟨this.1, by omega⟩)
        have hB8 := ownB_on HO7.out hs8 (fun g hg => by have := (HRB.out g hg); exact .inr ⟨by omega, this.2⟩)
        have hs78 := hs8.2
        have CC := hD8.durable nameA short_a
        rw [HKD.out.safe2] at CC
        have CCC := Lib.hid CC
        have HD8 := Lib.hid hD8
        have H8 := Lib.hid (And.intro hI8 (And.intro hP8 (And.intro hA8 hB8)))
        have HBL := Lib.hid hbl
        clear hD8 hs8 hO hP hI8 hP8 hA8 hB8 CC hbl HS HO67 HO7 HB7 HB6
        go_wp2_with fail
        refine CCC.out.mono ?_
        clear CCC
        rintro e w9 ⟨vc, rfl, hO9, hB9⟩
        have hO9 : OwnB w9 w8.heap.size 5 vc ds := hO9
        obtain ⟨Ac, cc, hvc⟩ := hO9.bytes.form
        rw [HN.out] at hvc
        subst hvc
        have hs9 := hB9.size
        have HB9 := Lib.hid hB9
        have HO9 := Lib.hid hO9
        have HRC := Lib.hid (ownB_blk hO9)
        have CE := (HD8.out.below hB9).durable nameA short_a
        rw [HKD.out.safe2] at CE
        have CEE := Lib.hid CE
        clear hB9 hO9 CE
        go_wp2_with fail
        refine CEE.out.mono ?_
        clear CEE
        rintro e w10 ⟨ve, rfl, hO10, hB10⟩
        have hO10 : OwnB w10 w9.heap.size 5 ve ds := hO10
        obtain ⟨Ae, ce, hve⟩ := hO10.bytes.form
        rw [HN.out] at hve
        subst hve
        have hs10 := hB10.size
        have HRE := Lib.hid (ownB_blk hO10)
        have hB810 := HB9.out.trans (hB10.mono HB9.out.size)
        have hD10 := (HD8.out.add hB810).mono (Fr' := fun k => (Btw w2.heap.size w4.heap.size k ∨ Btw wA.heap.size W7.heap.size k) ∨ Btw w8.heap.size w10.heap.size k) (fun k hk => hk)
        obtain ⟨hI8, hP8, hA8, hB8⟩ := H8.out
        have HBUN : Hid (Bun ds bs picks w2.heap.size w3.heap.size wA.heap.size w6.heap.size w8.heap.size w9.heap.size (.slice (some ⟨g3, 0, none⟩) (k + 3) c3) (.slice PA4 pl pc4) (.slice Aa k ca) (.slice Ab k cb) (.slice Ac k cc) (.slice Ae k ce) w10) :=
          Lib.hid ⟨hI8.below hB810, hP8.below hB810, hA8.below hB810, hB8.below hB810, HO9.out.below hB10, hO10⟩
        have HFR : Hid (∀ g, ((Value.slice (some ⟨g3, 0, none⟩) (k + 3) c3).ownBlock = some g ∨ (Value.slice PA4 pl pc4).ownBlock = some g ∨ (Value.slice Aa k ca).ownBlock = some g ∨ (Value.slice Ab k cb).ownBlock = some g ∨ (Value.slice Ac k cc).ownBlock = some g ∨ (Value.slice Ae k ce).ownBlock = some g) →
            ((Btw w2.heap.size w4.heap.size g ∨ Btw wA.heap.size W7.heap.size g) ∨ Btw w8.heap.size w10.heap.size g)) := Lib.hid fun g hg => by
          rcases hg with hg | hg | hg | hg | hg | hg
          · have := HR3.out.1 g hg; exact .inl (.inl ⟨this.1, by omega⟩)
          · have := HR3.out.2 g hg; exact .inl (.inl ⟨by omega, this.2⟩)
          · have := HRA.out g hg; exact .inl (.inr ⟨this.1, by omega⟩)
          · have := HRB.out g hg; exact .inl (.inr ⟨by omega, this.2⟩)
          · have := HRC.out g hg; exact .inr ⟨this.1, by omega⟩
          · have := HRE.out g hg; exact .inr ⟨by omega, this.2⟩
        have hBz : Below w10.heap.size w10 (w10.alloc (.cells #[.int .u8 122] 5 (1, 2))) := (Below.refl _ _).alloc (Nat.le_refl _) _
        have B1 : Bytes (w10.alloc (.cells #[.int .u8 122] 5 (1, 2))).heap.size (w10.alloc (.cells #[.int .u8 122] 5 (1, 2))) (.slice (some ⟨w10.heap.size, 0, none⟩) 1 1) [122] := bytes_made w10 [122] (by decide) (1, 2)
        have CZ := (hD10.below hBz).write HKD.out.m2 nameA (by decide) 0 (by decide) _ [122] (by decide) B1
        obtain ⟨zn, hzn⟩ : ∃ zn, D2.writeN nameA 0 ([122] : List Nat).length = zn := ⟨_, rfl⟩
        rw [hzn, HKD.out.e3] at CZ
        have CZZ := Lib.hid CZ
        have HBUNZ := Lib.hid (HBUN.out.below hBz)
        clear hO10 hB10 hB810 hD10 hI8 hP8 hA8 hB8 hBz B1 CZ hzn HBUN HD8 H8 HO9 HB9
        go_wp2_with fail
        refine CZZ.out.mono ?_
        clear CZZ
        rintro e w11 ⟨rfl, hD11, hs11⟩
        have HBUN := Lib.hid (HBUNZ.out.on hs11 HFR.out)
        have CX := Lib.hid (hD11.crash HKD.out.m3 (.slice PA4 pl pc4) picks (HBUN.out.2.1.ints fun g hg => HFR.out g (.inr (.inl hg))))
        rw [HKD.out.e4] at CX
        have hs10b := hs11.2
        simp only [World.size_alloc] at hs10b
        clear hD11 hs11 HBUNZ
        go_wp2_with fail
        refine CX.out.mono ?_
        clear CX
        rintro e w12 ⟨rfl, hD12, hs12⟩
        have HBUN := Lib.hid (HBUN.out.on hs12 HFR.out)
        have HD12 := Lib.hid hD12
        have hs11b := hs12.2
        clear hD12 hs12
        go_wp2_with fail
        go_loopw [18] (fun i wq => ∃ j : Nat, i = .int .i64 j ∧ j ≤ pl ∧ Hid (Dx (fun k => (Btw w2.heap.size w4.heap.size k ∨ Btw wA.heap.size W7.heap.size k) ∨ Btw w8.heap.size w10.heap.size k) w db D4 wq ∧
            Bun ds bs picks w2.heap.size w3.heap.size wA.heap.size w6.heap.size w8.heap.size w9.heap.size (.slice (some ⟨g3, 0, none⟩) (k + 3) c3) (.slice PA4 pl pc4) (.slice Aa k ca) (.slice Ab k cb) (.slice Ac k cc) (.slice Ae k ce) wq) ∧ w12.heap.size ≤ wq.heap.size) (fun i _ => pl - (intOf i).toNat)
        case atStart => exact ⟨0, rfl, Nat.zero_le _, Lib.hid ⟨HD12.out, HBUN.out⟩, Nat.le_refl _⟩
        case round =>
          obtain ⟨j, rfl, hj, HS, hwq⟩ := hrel
          by_cases hlt : j < pl
          · obtain ⟨X1, xc1, hx1, hx1c, hx1b⟩ := HS.out.2.2.1.ints (Q := fun _ => True) (fun _ _ => trivial)
            obtain ⟨X2, xc2, hx2, hx2c, hx2b⟩ := HP.out
            simp only [Value.slice.injEq] at hx1 hx2
            obtain ⟨rfl, hxl1, rfl⟩ := hx1
            obtain ⟨rfl, hxl2, rfl⟩ := hx2
            obtain ⟨q1, o1, rfl, _, hq1⟩ := hx1b (by omega)
            obtain ⟨q2, o2, rfl, hq2l, hq2⟩ := hx2b (by omega)
            have r1 := hq1 j (by omega)
            have r2 := (HS.out.1.low.cell (p := ⟨q2, o2 + j, none⟩) hq2l).trans (hq2 j (by omega))
            obtain ⟨z, hz⟩ : ∃ z, picks.getD j 0 = z := ⟨_, rfl⟩
            rw [hz] at r1 r2
            have R1 : ∀ x, (wr.drewN x).cell? ⟨q1, o1 + j, none⟩ = some (.int .i64 z) := fun _ => r1
            have R2 : ∀ x, (wr.drewN x).cell? ⟨q2, o2 + j, none⟩ = some (.int .i64 z) := fun _ => r2
            have hjI : (j : Int) < (pl : Int) := by omega
            have hj1 : (pl : Int) ≤ (pc4 : Int) := by omega
            have hj2 : (pl : Int) ≤ (pc : Int) := by omega
            clear hx1b hx2b hq1 hq2 r1 r2 hz hxl1 hxl2 hx1c hx2c
            go_wp2_with fail
            go_quiet (fail)
            have hdr : Below wr.heap.size wr (wr.drewN nq) := below_drewN (Below.refl _ _)
            have HE := Lib.hid (And.intro (HS.out.1.below hdr) (HS.out.2.below hdr))
            have hsd : w12.heap.size ≤ (wr.drewN nq).heap.size := hwq
            clear hdr HS
            generalize wr.drewN nq = wq2 at HE hsd ⊢
            go_wp2_with fail
            go_roundw
            case rel => exact ⟨j + 1, by go_num, by omega, HE, hsd⟩
            case measure => simp [intOf]; omega
          · obtain rfl : j = pl := by omega
            clear hlt
            obtain ⟨wB, rfl⟩ : ∃ x, x = wr := ⟨_, rfl⟩
            obtain ⟨hDB, hbI, hbP, hbA, hbB, hbC, hbE⟩ := HS.out
            have CS := Lib.hid (same_true _ _ ds wB hbC.bytes ((HI.out.below hDB.low).more hDB.low.size))
            have hal : Below wB.heap.size wB (wB.alloc (.cells #[.slice Aa k ca, .slice Ab k cb, .slice Ac k cc, .slice Ae k ce, .slice (some ⟨g3, 0, none⟩) k c3] 34)) := (Below.refl _ _).alloc (Nat.le_refl _) _
            have hbl := HBL.out
            have hfr := ownB_front hbI k (by omega) hbl
            have hDs := distinct_keeps (x0 := .slice Aa k ca) (x1 := .slice Ab k cb) (x2 := .slice Ac k cc) (x3 := .slice Ae k ce) (x4 := .slice (some ⟨g3, 0, none⟩) k c3) (fun b hb => HR3.out.1 b hb) HRA.out HRB.out HRC.out HRE.out (by omega) (by omega) (by omega) (by omega) (by omega) (by omega) (by omega) (by omega)
            have hn5 : ds.length = k := HN.out
            have cA := apart_calls 5 (by omega) (five (.slice Aa k ca) (.slice Ab k cb) (.slice Ac k cc) (.slice Ae k ce) (.slice (some ⟨g3, 0, none⟩) k c3)) (fun _ => k) (by intro j hj; omega) wB.heap.size 5
              #[.slice Aa k ca, .slice Ab k cb, .slice Ac k cc, .slice Ae k ce, .slice (some ⟨g3, 0, none⟩) k c3] (0, 0) w2.heap.size
              (wB.alloc (.cells #[.slice Aa k ca, .slice Ab k cb, .slice Ac k cc, .slice Ae k ce, .slice (some ⟨g3, 0, none⟩) k c3] 34))
              (by simp; omega) (by intro j hj; rcases below_five hj with rfl | rfl | rfl | rfl | rfl <;> rfl) (heap_alloc_new wB _) hDs
              (by
                intro j hj
                rcases below_five hj with rfl | rfl | rfl | rfl | rfl
                · exact ⟨_, hn5, (hbA.below hal).lowerB (by omega)⟩
                · exact ⟨_, hn5, (hbB.below hal).lowerB (by omega)⟩
                · exact ⟨_, hn5, (hbC.below hal).lowerB (by omega)⟩
                · exact ⟨_, hn5, (hbE.below hal).lowerB (by omega)⟩
                · exact ⟨_, by rw [List.length_take, hbl]; omega, hfr.below hal⟩)
            have CAA := Lib.hid cA
            have HDB := Lib.hid (hDB.below hal)
            clear hDB hbI hbP hbA hbB hbC hbE hal hfr hDs cA HS hbl hn5
            go_wp2_with fail
            refine CS.out.mono ?_
            rintro e WB ⟨rfl, rfl⟩
            clear CS
            go_wp2_with fail
            refine CAA.out.mono ?_
            clear CAA
            rintro e w13 ⟨rfl, hL⟩
            have hD13 := HDB.out.turn hL.1.size (fun j hj hf => hL.2 j hj (fun i hi e => hf (by
              rcases below_five hi with rfl | rfl | rfl | rfl | rfl
              · exact HFR.out j (.inr (.inr (.inl e)))
              · exact HFR.out j (.inr (.inr (.inr (.inl e))))
              · exact HFR.out j (.inr (.inr (.inr (.inr (.inl e)))))
              · exact HFR.out j (.inr (.inr (.inr (.inr (.inr e)))))
              · exact HFR.out j (.inl e)))) hL.1.os hL.1.tape hL.1.output
            clear hL HDB
            go_wp2_with fail
            obtain ⟨f, hf, hf1, hf2, hf3⟩ := HKD.out.now4
            have CF := hD13.read nameA short_a
            rw [hf] at CF
            have CFF := Lib.hid CF
            have HL13 := Lib.hid hD13.low
            clear CF hD13 hf
            go_wp2_with fail
            refine CFF.out.mono ?_
            clear CFF
            rintro e w14 ⟨vf, rfl, hOf, hBf⟩
            have hOf : OwnB w14 w13.heap.size 5 vf f := hOf
            obtain ⟨fl, hfl⟩ : ∃ fl, f.length = fl := ⟨_, rfl⟩
            obtain ⟨Af, cf, hvf⟩ := hOf.bytes.form
            rw [hfl] at hvf
            subst hvf
            have HL14 := Lib.hid (HL13.out.trans (hBf.mono HL13.out.size))
            rw [hfl] at hf1 hf3
            rw [HN.out] at hf1
            by_cases hk1 : 1 < k
            · obtain ⟨gf, cf2, hvf2, hgf1, hgf2⟩ := hOf.form (by omega)
              rw [hfl] at hvf2
              simp only [Value.slice.injEq] at hvf2
              obtain ⟨rfl, _, rfl⟩ := hvf2
              have hcf := hOf.capOk hfl
              obtain ⟨A', cap', hv, hc1, _, _, hc2⟩ := HI.out
              simp only [Value.slice.injEq] at hv
              obtain ⟨hvA, hvk, hvc⟩ := hv
              subst hvA
              subst hvc
              clear hvk
              obtain ⟨b0, off0, rfl, hb0, _⟩ := hc2 (by rw [HN.out]; omega)
              rw [HN.out] at hc1
              have d1 : decide (fl < k) = false := by simp; omega
              have d2 : decide (1 < k) = true := by simp; omega
              have d3 : decide ((fl : Int) < (k : Int)) = false := by simp; omega
              have d4 : decide ((1 : Int) < (k : Int)) = true := by simp; omega
              have i1 : (1 : Int) ≤ (fl : Int) := by omega
              have i2 : (fl : Int) ≤ (cf : Int) := by omega
              have i3 : (1 : Int) ≤ (k : Int) := by omega
              have i4 : (k : Int) ≤ (cap : Int) := by omega
              have hft := bytes_tail hOf.bytes hfl (by omega)
              have hdt := bytes_tail HI.out HN.out (by omega)
              rw [hf2] at hft
              have cS := fun d os => Calls.regrown_of (d := d) (os := os) ((same_true (.slice (some ⟨gf, 1, none⟩) (fl - 1) (cf - 1)) (.slice (some ⟨b0, off0 + 1, none⟩) (k - 1) (cap - 1)) (ds.drop 1) (grow (redrawn w14 d) os) (hft.below (below_regrown w14 d os)) (hdt.below (HL14.out.trans ((below_regrown w14 d os).mono HL14.out.size)))).mono fun e W' ⟨he, hw⟩ => ⟨he, hw ▸ Below.refl _ _⟩)
              have CS := Lib.hid cS
              clear hc2 hOf hBf hbig hft hdt cS
              go_wp2_with fail
              refine wp_region_quiet_below (by kernel_rfl) (by kernel_rfl) ?_
              repeat (go_big_quiet_step (exact CS.out _ _))
              refine wpQuiet_nil ?_
              intro w' hw'
              obtain ⟨⟨dq, osq⟩, rfl⟩ := hw'
              have HLX := Lib.hid (HL14.out.trans ((below_regrown w14 dq osq).mono HL14.out.size))
              generalize grow (redrawn w14 dq) osq = w15 at HLX ⊢
              go_wp2_with fail
              refine (crash_nil PA j pc _).mono ?_
              rintro e x1 ⟨rfl, hx⟩
              have HLX := Lib.hid (HLX.out.trans (hx.mono HLX.out.size))
              clear hx
              go_wp2_with fail
              refine (fail_nil true _).mono ?_
              rintro e x2 ⟨rfl, hx⟩
              have HLX := Lib.hid (HLX.out.trans (hx.mono HLX.out.size))
              clear hx
              go_wp2_with fail
              refine (read_nil nameA _).mono ?_
              rintro e x3 ⟨vn, rfl, hOn, hx⟩
              have HLX := Lib.hid (HLX.out.trans (hx.mono HLX.out.size))
              have hOn : OwnB x3 _ 5 vn [] := hOn
              obtain ⟨An, cn, hvn⟩ := hOn.bytes.form
              have hvn : vn = .slice An 0 cn := hvn
              subst hvn
              clear hx hOn
              go_wp2_with fail
              refine (write_nil nameA 0 none 0 0 _).mono ?_
              rintro e x4 ⟨rfl, hx⟩
              have HLX := Lib.hid (HLX.out.trans (hx.mono HLX.out.size))
              clear hx
              go_wp2_with fail
              refine (sync_nil nameA _).mono ?_
              rintro e x5 ⟨rfl, hx⟩
              have HLX := Lib.hid (HLX.out.trans (hx.mono HLX.out.size))
              clear hx
              go_wp2_with fail
              refine (cut_nil nameA 0 _).mono ?_
              rintro e x6 ⟨rfl, hx⟩
              have HLX := Lib.hid (HLX.out.trans (hx.mono HLX.out.size))
              clear hx
              go_wp2_with fail
              refine (remove_nil nameA _).mono ?_
              rintro e x7 ⟨rfl, hx⟩
              have HLX := Lib.hid (HLX.out.trans (hx.mono HLX.out.size))
              clear hx
              go_wp2_with fail
              refine (limit_nil 1 _).mono ?_
              rintro e x8 ⟨rfl, hx⟩
              have HLX := Lib.hid (HLX.out.trans (hx.mono HLX.out.size))
              clear hx
              go_wp2_with fail
              refine (copy_nil _).mono ?_
              rintro e x9 ⟨rfl, hx⟩
              have HLX := Lib.hid (HLX.out.trans (hx.mono HLX.out.size))
              clear hx
              go_wp2_with fail
              refine (used_nil _).mono ?_
              rintro e x10 ⟨rfl, hx⟩
              have HLX := Lib.hid (HLX.out.trans (hx.mono HLX.out.size))
              clear hx
              go_wp2_with fail
              go_ret
              exact ⟨rfl, HLX.out⟩
            · have d3 : decide ((fl : Int) < (k : Int)) = false := by simp; omega
              have d4 : decide ((1 : Int) < (k : Int)) = false := by simp; omega
              have d1 : decide (fl < k) = false := by simp; omega
              have d2 : decide (1 < k) = false := by simp; omega
              clear hOf hBf hbig
              go_wp2_with fail
              refine wp_region_quiet_below (by kernel_rfl) (by kernel_rfl) ?_
              repeat (go_big_quiet_step (fail))
              refine wpQuiet_nil ?_
              intro w' hw'
              obtain ⟨⟨dq, osq⟩, rfl⟩ := hw'
              have HLX := Lib.hid (HL14.out.trans ((below_regrown w14 dq osq).mono HL14.out.size))
              generalize grow (redrawn w14 dq) osq = w15 at HLX ⊢
              go_wp2_with fail
              refine (crash_nil PA j pc _).mono ?_
              rintro e x1 ⟨rfl, hx⟩
              have HLX := Lib.hid (HLX.out.trans (hx.mono HLX.out.size))
              clear hx
              go_wp2_with fail
              refine (fail_nil true _).mono ?_
              rintro e x2 ⟨rfl, hx⟩
              have HLX := Lib.hid (HLX.out.trans (hx.mono HLX.out.size))
              clear hx
              go_wp2_with fail
              refine (read_nil nameA _).mono ?_
              rintro e x3 ⟨vn, rfl, hOn, hx⟩
              have HLX := Lib.hid (HLX.out.trans (hx.mono HLX.out.size))
              have hOn : OwnB x3 _ 5 vn [] := hOn
              obtain ⟨An, cn, hvn⟩ := hOn.bytes.form
              have hvn : vn = .slice An 0 cn := hvn
              subst hvn
              clear hx hOn
              go_wp2_with fail
              refine (write_nil nameA 0 none 0 0 _).mono ?_
              rintro e x4 ⟨rfl, hx⟩
              have HLX := Lib.hid (HLX.out.trans (hx.mono HLX.out.size))
              clear hx
              go_wp2_with fail
              refine (sync_nil nameA _).mono ?_
              rintro e x5 ⟨rfl, hx⟩
              have HLX := Lib.hid (HLX.out.trans (hx.mono HLX.out.size))
              clear hx
              go_wp2_with fail
              refine (cut_nil nameA 0 _).mono ?_
              rintro e x6 ⟨rfl, hx⟩
              have HLX := Lib.hid (HLX.out.trans (hx.mono HLX.out.size))
              clear hx
              go_wp2_with fail
              refine (remove_nil nameA _).mono ?_
              rintro e x7 ⟨rfl, hx⟩
              have HLX := Lib.hid (HLX.out.trans (hx.mono HLX.out.size))
              clear hx
              go_wp2_with fail
              refine (limit_nil 1 _).mono ?_
              rintro e x8 ⟨rfl, hx⟩
              have HLX := Lib.hid (HLX.out.trans (hx.mono HLX.out.size))
              clear hx
              go_wp2_with fail
              refine (copy_nil _).mono ?_
              rintro e x9 ⟨rfl, hx⟩
              have HLX := Lib.hid (HLX.out.trans (hx.mono HLX.out.size))
              clear hx
              go_wp2_with fail
              refine (used_nil _).mono ?_
              rintro e x10 ⟨rfl, hx⟩
              have HLX := Lib.hid (HLX.out.trans (hx.mono HLX.out.size))
              clear hx
              go_wp2_with fail
              go_ret
              exact ⟨rfl, HLX.out⟩

end Go.Proofs.Ytlmohcmnoddncaa.Disk
