/-
  Put together out of texts of one chain: what they hold stands ahead of each.
-/
import Derived.Test.YtdikmlnpclklnaaGreatDoorGSlotScripts23
import Derived.Test.YtdikmlnpclklnaaGreatDoorGSlotScripts18
import Derived.Deep.DeepCutAuto
import Derived.Deep.CutBlock
import Derived.Deep.CutRange
import Derived.Deep.LoopGhost
/-
  A script of steps of a slot that came in.
-/
namespace Go.Proofs.YtdikmlnpclklnaaGreatDoor.Slot
open Go Go.ChangeShapes Go.WideShapes Go.ChangeAt Go.RowKit Go.Deep Go.Proofs.YtdikmlnpclklnaaGreatDoor.Law Go.Proofs.YtdikmlnpclklnaaGreatDoor.Disk

structure Step where
  kind : Int
  value : ByteArray
  room : Int
  picks : List Int

/-- The four cells of a step. -/
def StepAt (W : World) (b o : Nat) (s : Step) (pv : Value) : Prop :=
  W.cell? ⟨b, o, none⟩ = some (.int .i64 s.kind) ∧ W.cell? ⟨b, o + 1, none⟩ = some (.string s.value) ∧ W.cell? ⟨b, o + 2, none⟩ = some (.int .i64 s.room) ∧ W.cell? ⟨b, o + 3, none⟩ = some pv
/-- The slice value reads as these steps. -/
def Steps (n₀ : Nat) (W : World) (v : Value) (l : List Step) : Prop :=
  ∃ A cap, v = .slice A l.length cap ∧ l.length ≤ cap ∧ (0 < l.length → ∃ b off, A = some ⟨b, off, none⟩ ∧ b < n₀ ∧ ∀ (j : Nat) (s : Step), l[j]? = some s →
    s.value.size ≤ 9223372036854775807 ∧ ∃ pv, StepAt W b (off + j * 4) s pv ∧ Ints (fun b => b < n₀) W pv s.picks)

section
variable {H : Type} {enc : TypeId × Value → H} {W : World}

theorem ints_cell {P : Program} {t e : TypeId} {fuel : Nat} {q : Value} {y : DataW H × List MemPlace} (ht : P.underlying t = some (.slice e)) (he : P.underlying e = some (.int .i64)) (hc : P.cellsOf e = 1)
    (h : DataW.trod enc P W 0 (fun _ => true) true fuel t [q] = some y) : ∃ zs : List Int, Ints (fun b => b < W.heap.size) W q zs := by
  rcases open_ints ht he hc h with ⟨hcs, hx⟩ | ⟨a, len, cap, zs, hcs, _, hl, hm, hz, hx, hcell, hwz⟩
  · obtain rfl : q = .slice none 0 0 := by simpa using hcs
    exact ⟨[], none, 0, rfl, by simp, by simp⟩
  · obtain rfl : q = .slice (some a) len cap := by simpa using hcs
    simp only [if_true] at hz
    have hlen : (zs.take len).length = len := by simp; omega
    refine ⟨zs.take len, some a, cap, by rw [hlen], by rw [hlen]; exact hl, fun hp => ?_⟩
    rw [hlen] at hp ⊢
    obtain ⟨ab, ao, spot⟩ := a
    have hspot : spot = none := by simpa [Addr.add] using World.cell?_spot (hcell 0 (by omega))
    subst hspot
    have h0 := hcell 0 (by omega)
    rw [Addr.add_lit] at h0
    refine ⟨ab, ao, rfl, block_lt_cell h0, fun j hj => ?_⟩
    have hj' := hcell j (by omega)
    rw [Addr.add_lit] at hj'
    rw [hj']
    simp [List.getD, hj]

set_option maxRecDepth 100000 in
/-- One step. -/
theorem open_step {fuel : Nat} {a : Addr} {cs' : List Value} {y : DataW H × List MemPlace} (hc : W.cells? 0 a 4 = some cs')
    (h : DataW.trod enc Tryz.prog W 0 (fun _ => true) true fuel 64 cs' = some y) :
    ∃ (s : Step) (pv : Value), a.spot = none ∧ StepAt W a.block a.off s pv ∧ Ints (fun b => b < W.heap.size) W pv s.picks ∧ s.value.size ≤ 9223372036854775807 ∧ a.block < W.heap.size := by
  obtain ⟨xs, n', _, hy, hcl, hxl, hf⟩ := DataW.trod_struct Tryz.underlying64 h
  obtain ⟨_, hlen, hat⟩ := World.cells?_some hc
  match cs', hlen with
  | [q0, q1, q2, q3], _ =>
    match xs, hxl with
    | [y0, y1, y2, y3], _ =>
      have ki : Tryz.prog.cellsOf 3 = 1 := by kernel_rfl
      have ks : Tryz.prog.cellsOf 9 = 1 := by kernel_rfl
      have kn : Tryz.prog.cellsOf 55 = 1 := by kernel_rfl
      have f0 : DataW.trod enc Tryz.prog W 0 (fun _ => true) true n' 3 [q0] = some y0 := by have := hf 0 _ rfl; simpa [ki] using this
      have f1 : DataW.trod enc Tryz.prog W 0 (fun _ => true) true n' 9 [q1] = some y1 := by have := hf 1 _ rfl; simpa [ks] using this
      have f2 : DataW.trod enc Tryz.prog W 0 (fun _ => true) true n' 3 [q2] = some y2 := by have := hf 2 _ rfl; simpa [ki] using this
      have f3 : DataW.trod enc Tryz.prog W 0 (fun _ => true) true n' 55 [q3] = some y3 := by have := hf 3 _ rfl; simpa [kn] using this
      obtain ⟨z0, e0, -, _⟩ := DataW.trod_int Tryz.underlying3 f0
      obtain ⟨s1, e1, _, hs1⟩ := DataW.trod_string Tryz.underlying9 f1
      obtain ⟨z2, e2, -, _⟩ := DataW.trod_int Tryz.underlying3 f2
      obtain rfl : q0 = .int .i64 z0 := by simpa using e0
      obtain rfl : q1 = .string s1 := by simpa using e1
      obtain rfl : q2 = .int .i64 z2 := by simpa using e2
      obtain ⟨ps, hps⟩ := ints_cell Tryz.underlying55 Tryz.underlying3 (by kernel_rfl) f3
      have c0 := hat 0 (by omega)
      have c1 := hat 1 (by omega)
      have c2 := hat 2 (by omega)
      have c3 := hat 3 (by omega)
      obtain ⟨ab, ao, sp⟩ := a
      have hsp : sp = none := by
        have h := World.cell?_spot (c0.trans (rfl : _ = some (Value.int .i64 z0)))
        simpa [Addr.add] using h
      subst hsp
      rw [Addr.add_lit] at c0 c1 c2 c3
      simp only [maxLen] at hs1
      exact ⟨⟨z0, s1, z2, ps⟩, q3, rfl, ⟨c0, c1, c2, c3⟩, hps, by show s1.size ≤ _; omega, block_lt_cell c0⟩

set_option maxRecDepth 100000 in
/-- A script that came in. -/
theorem open_steps {base : Nat} {v : Value} {d : DataW H} {ps : List MemPlace} (hval : Value.okWide Tryz.prog W .any base 59 v) (h : DataW.Trod enc Tryz.prog W 0 (fun _ => true) true 59 v d ps) :
    ∃ l : List Step, Steps W.heap.size W v l ∧ l.length ≤ maxLen := by
  obtain ⟨a1, len0, cap0, rfl⟩ := okWide_slice Tryz.underlying59 hval
  obtain ⟨fuel, hf⟩ := h
  have hf : DataW.trod enc Tryz.prog W 0 (fun _ => true) true fuel 59 [.slice a1 len0 cap0] = some (d, ps) := by simpa [Value.cells] using hf
  rcases open_slice Tryz.underlying59 hf with ⟨hcs, _⟩ | ⟨a, len, cap, m, n, D, Pl, hcs, _, hl, hm, hmm, hx, hi⟩
  · simp only [List.cons.injEq, Value.slice.injEq, and_true] at hcs
    obtain ⟨rfl, rfl, rfl⟩ := hcs
    exact ⟨[], ⟨none, 0, rfl, by simp, by simp⟩, by simp⟩
  · simp only [List.cons.injEq, Value.slice.injEq, and_true] at hcs
    obtain ⟨rfl, rfl, rfl⟩ := hcs
    simp only [if_true] at hmm
    subst hmm
    have hC : Tryz.prog.cellsOf 64 = 4 := by kernel_rfl
    rw [hC] at hi
    have hone : ∀ i, i < len0 → ∃ (s : Step) (pv : Value), a.spot = none ∧ StepAt W a.block (a.off + i * 4) s pv ∧ Ints (fun b => b < W.heap.size) W pv s.picks ∧ s.value.size ≤ 9223372036854775807 ∧ a.block < W.heap.size := by
      intro i hil
      obtain ⟨cs', hc, ht⟩ := hi i (by omega)
      obtain ⟨s, pv, _, h2, h3⟩ := open_step hc ht
      obtain ⟨cs0, hc0, ht0⟩ := hi 0 (by omega)
      obtain ⟨_, _, h0, _⟩ := open_step hc0 ht0
      obtain ⟨ab, ao, sp⟩ := a
      have hsp : sp = none := by simpa [Addr.add] using h0
      subst hsp
      rw [Addr.add_lit] at h2 h3
      exact ⟨s, pv, rfl, h2, h3⟩
    obtain ⟨X, hX⟩ := Classical.axiomOfChoice (r := fun (i : Nat) (s : Step) => i < len0 → ∃ pv : Value, a.spot = none ∧ StepAt W a.block (a.off + i * 4) s pv ∧ Ints (fun b => b < W.heap.size) W pv s.picks ∧ s.value.size ≤ 9223372036854775807 ∧ a.block < W.heap.size) (fun i => by
      by_cases h : i < len0
      · obtain ⟨x, pv, hx⟩ := hone i h
        exact ⟨x, fun _ => ⟨pv, hx⟩⟩
      · exact ⟨⟨0, ⟨#[]⟩, 0, []⟩, fun h' => absurd h' h⟩)
    have hget : ∀ (j : Nat) (x : Step), ((List.range len0).map X)[j]? = some x → j < len0 ∧ X j = x := by
      intro j x hx
      rw [List.getElem?_map] at hx
      by_cases hj : j < len0
      · rw [List.getElem?_range hj] at hx
        exact ⟨hj, by simpa using hx⟩
      · rw [List.getElem?_eq_none (by simp; omega)] at hx
        simp at hx
    refine ⟨(List.range len0).map X, ⟨some a, m, by simp, by simpa using hl, fun hp => ?_⟩, by simp; omega⟩
    have hp' : 0 < len0 := by simpa using hp
    obtain ⟨_, hs, _, _, _, hb⟩ := hX 0 hp'
    obtain ⟨ab, ao, spot⟩ := a
    obtain rfl : spot = none := hs
    refine ⟨ab, ao, rfl, hb, fun j x hx => ?_⟩
    obtain ⟨hj, rfl⟩ := hget j x hx
    obtain ⟨pv, _, h1, h2, h3, _⟩ := hX j hj
    exact ⟨h3, pv, h1, h2⟩
end

end Go.Proofs.YtdikmlnpclklnaaGreatDoor.Slot

/-
  The walk of the law SlotScripts: whatever the script, it returns true and nothing that lay has turned.
-/
namespace Go.Proofs.YtdikmlnpclklnaaGreatDoor.Slot
open Go Go.RowKit Go.Lib Go.Proofs.YtdikmlnpclklnaaGreatDoor.Law Go.Proofs.YtdikmlnpclklnaaGreatDoor.Disk

def boxP (s : Step) (v : ByteArray) (pv : Value) : Option Obj := some (.cells #[.int .i64 s.kind, .string v, .int .i64 s.room, pv] 64 (0, 0))
theorem boxP_cells {W : World} {b : Nat} {s : Step} {v : ByteArray} {pv : Value} (h : W.heap[b]? = boxP s v pv) :
    W.cell? ⟨b, 0, none⟩ = some (.int .i64 s.kind) ∧ W.cell? ⟨b, 1, none⟩ = some (.string v) ∧ W.cell? ⟨b, 2, none⟩ = some (.int .i64 s.room) ∧ W.cell? ⟨b, 3, none⟩ = some pv ∧ W.frozen? ⟨b, 1, none⟩ = false ∧ b < W.heap.size := by
  unfold boxP at h
  refine ⟨?_, ?_, ?_, ?_, ?_, (Array.getElem?_eq_some_iff.1 h).1⟩ <;> simp [World.cell?, World.frozen?, h]

/-- The value in the box is cut short. -/
theorem StB.trim {w W : World} {db sl bx n i : Nat} {s : Step} {v0 value : ByteArray} {pv : Value} {torn : Bool} (h : StB w db sl bx (boxP s v0 pv) value n torn i W) (v' : ByteArray) : StB w db sl bx (boxP s v' pv) value n torn i (W.setCell ⟨bx, 1, none⟩ (.string v')) := by
  obtain ⟨D, h1, h2, h3, h4, h5, h6, h7⟩ := h
  have hO := Only.set W bx 1 (.string v')
  refine ⟨D, h1.turn hO.size (fun k hk hf => hO.same k hk fun e => hf (.inr e)) hO.os hO.tape hO.output, ((hO.same sl h2.lt (Ne.symm h6)).trans h2), h3, h4, h5, h6, ?_⟩
  unfold boxP at h7 ⊢
  exact (slot_set h7 1 (.string v')).trans (by simp)

theorem place_mod (z : Int) (n : Nat) (h0 : 0 < n) (hn : n ≤ 1000000) : ∃ s : Nat, s < n ∧ wrap64 ((IntKind.u64.wrap z).tmod (n : Int)) = (s : Int) := by
  have h1 : 0 ≤ IntKind.u64.wrap z := by unfold IntKind.wrap; simp [IntKind.signed]; omega
  have h2 := Int.tmod_nonneg (n : Int) h1
  have h3 := Int.tmod_lt_of_pos (IntKind.u64.wrap z) (show (0 : Int) < n by omega)
  refine ⟨((IntKind.u64.wrap z).tmod (n : Int)).toNat, by omega, ?_⟩
  unfold wrap64
  omega

set_option maxRecDepth 100000 in
set_option maxHeartbeats 8000000 in
theorem slotScripts_law (vv : Value) (l : List Step) (hl : l.length ≤ maxLen) (w : World) (hT : Crc.Tab w) (hI : Steps w.heap.size w vv l) :
    Calls Tryz.prog 7 #[vv] w fun e W => e = .returned (.bool true) ∧ Below w.heap.size w W := by
  simp only [maxLen] at hl
  obtain ⟨A, cap, rfl, hlc, hat⟩ := hI
  obtain ⟨len, hlen⟩ : ∃ n, l.length = n := ⟨_, rfl⟩
  have HL := Lib.hid hlen
  rw [hlen] at hl hlc hat ⊢
  have HAT := Lib.hid hat
  have HT := Lib.hid hT
  have CK := Lib.hid (known_law w hT)
  have CO : Hid (∀ db W1, Dk w db (DS.fresh 100000) W1 → Calls Tryz.prog 28 #[.pointer (some ⟨db, 0, none⟩), .string ⟨#[110]⟩] W1 fun e2 W2 => ∃ sl', e2 = .returned (.tuple #[.pointer (some ⟨sl', 0, none⟩), .int .i64 0]) ∧ Hid (St w db sl' ⟨#[]⟩ 0 false 0 W2)) := Lib.hid fun db W1 h => by
    refine (open_none w W1 db _ h (hT.below h.low) nameN nameN_right rfl rfl).mono ?_
    rintro e2 W2 ⟨sl', rfl, e3, e4⟩
    exact ⟨sl', rfl, Lib.hid ⟨_, e3, e4, SG.fresh _ _ _, Nat.le_refl _, Nat.le_refl _⟩⟩
  clear hlen hat hT
  go_enter Tryz.func7, Tryz.ntmps7
  go_wp2_with fail
  refine CK.out.mono ?_
  rintro e w1 ⟨rfl, hB1⟩
  have CN := Lib.hid (new_dk 100000 (by decide) w w1 hB1)
  clear hB1 CK
  go_wp2_with fail
  refine CN.out.mono ?_
  rintro e w2 ⟨db, rfl, h2⟩
  have CO2 := Lib.hid (CO.out db w2 h2)
  clear h2 CN CO
  go_wp2_with fail
  refine CO2.out.mono ?_
  rintro e w3 ⟨sl, rfl, HR⟩
  clear CO2
  go_wp2_with fail
  go_loopg [5, 7, 8, 9, 10, 11] 100 (fun gg s5 s7 s8 s9 s10 i wr => ∃ (k sl n : Nat) (value other : ByteArray) (torn : Bool), k + gg = 100 ∧ i = .int .i64 k ∧ k ≤ len ∧ s5 = .pointer (some ⟨sl, 0, none⟩) ∧ s7 = .string value ∧ s8 = .int .i64 n ∧ s9 = .string other ∧ s10 = .bool torn ∧ n ≤ k ∧ Hid (St w db sl value n torn k wr))
  case atStart => exact ⟨0, sl, 0, ⟨#[]⟩, ⟨#[]⟩, false, rfl, rfl, Nat.zero_le _, rfl, rfl, rfl, rfl, rfl, Nat.le_refl _, HR⟩
  case round =>
    obtain ⟨k, sl, n, value, other, torn, hkg, rfl, hkl, rfl, rfl, rfl, rfl, rfl, hnk, HS⟩ := hrel
    by_cases hlt : k < len ∧ k < 100
    · obtain ⟨hlt1, hlt2⟩ := hlt
      obtain ⟨g', rfl⟩ : ∃ g', gk = g' + 1 := ⟨gk - 1, by omega⟩
      obtain ⟨s, hs⟩ : ∃ s, l[k]? = some s := ⟨_, List.getElem?_eq_getElem (by rw [HL.out]; exact hlt1)⟩
      obtain ⟨b, off, rfl, hbw, hat⟩ := HAT.out (by omega)
      obtain ⟨hvs, pv, ⟨d0, d1, d2, d3⟩, hpk⟩ := hat k s hs
      have hlow := HS.out.low
      replace d0 := (hlow.cell (p := ⟨b, off + k * 4, none⟩) hbw).trans d0
      replace d1 := (hlow.cell (p := ⟨b, off + k * 4 + 1, none⟩) hbw).trans d1
      replace d2 := (hlow.cell (p := ⟨b, off + k * 4 + 2, none⟩) hbw).trans d2
      replace d3 := (hlow.cell (p := ⟨b, off + k * 4 + 3, none⟩) hbw).trans d3
      have hbr : b < wr.heap.size := Nat.lt_of_lt_of_le hbw hlow.size
      have hkI : (k : Int) < (len : Int) := by omega
      have hkI2 : (k : Int) < 100 := by omega
      have hnI : (n : Int) ≤ 100 := by omega
      obtain ⟨PA, pc, rfl, _⟩ := id hpk
      obtain ⟨pl, hpl⟩ : ∃ n, s.picks.length = n := ⟨_, rfl⟩
      rw [hpl] at d3 hpk
      have HPK := Lib.hid hpk
      obtain ⟨wb, hwb⟩ : ∃ wb, wr.alloc (.cells #[.int .i64 s.kind, .string s.value, .int .i64 s.room, .slice PA pl pc] 64) = wb := ⟨_, rfl⟩
      have hbb : Below wr.heap.size wr wb := by rw [← hwb]; exact (Below.refl _ _).alloc (Nat.le_refl _) _
      have hszb : wb.heap.size = wr.heap.size + 1 := by rw [← hwb]; simp
      have hob : wb.heap[wr.heap.size]? = boxP s s.value (.slice PA pl pc) := by rw [← hwb]; simp only [World.alloc, Array.getElem?_push_size]; rfl
      have HSB := Lib.hid (HS.out.box hbb hszb hob)
      obtain ⟨c0, c1, c2, c3, cz, cb⟩ := boxP_cells hob
      have HWB := Lib.hid hwb
      clear hat hs hpk hlow hpl hwb hbb hszb hob HS HR
      obtain ⟨bx, hbx⟩ : ∃ bx, wr.heap.size = bx := ⟨_, rfl⟩
      rw [hbx] at HSB c0 c1 c2 c3 cz cb
      go_upto_region 11 with fail
      rw [HWB.out]
      clear d0 d1 d2 d3
      go_upto_if 55 with fail
      go_cut [] (fun wx => ∃ v, v.size ≤ 2000 ∧ Hid (StB w db sl bx (boxP s v (.slice PA pl pc)) value n torn k wx))
      case first =>
        rcases (show s.value.size ≤ 2000 ∨ 2000 < s.value.size by omega) with hv | hv
        · have hvI : (s.value.size : Int) ≤ 2000 := by omega
          go_wp2_with fail
          go_meet
          exact ⟨s.value, hv, HSB⟩
        · have hvI : (2000 : Int) < (s.value.size : Int) := by omega
          have HTR := Lib.hid (HSB.out.trim (s.value.extract 0 2000))
          have hsz : (s.value.extract 0 2000).size ≤ 2000 := by rw [ByteArray.size_extract]; omega
          go_wp2_with fail
          go_meet
          exact ⟨_, hsz, HTR⟩
      case rest =>
        obtain ⟨v, hvv, HSB2⟩ := hcut
        obtain ⟨D0, _, _, _, _, _, _, hob⟩ := HSB2.out
        clear c0 c1 c2 c3 cz cb HSB HWB hvs
        have HSB := HSB2
        clear HSB2
        obtain ⟨c0, c1, c2, c3, cz, cb⟩ := boxP_cells hob
        clear hob
        go_upto_block 2 with fail
        go_cut [5, 7, 8, 9, 10, 13, 14, 15, 16, 17] from 38 to 191 (fun s5 s7 s8 s9 s10 _ _ _ _ _ wx => ∃ (sl n : Nat) (value other : ByteArray) (torn : Bool), s5 = .pointer (some ⟨sl, 0, none⟩) ∧ s7 = .string value ∧ s8 = .int .i64 (n : Nat) ∧ s9 = .string other ∧ s10 = .bool torn ∧ n ≤ k + 1 ∧ Hid (St w db sl value n torn (k + 1) wx))
        case first =>
          cases torn with
          | true =>
            by_cases h0 : s.kind = 0
            · as_aux_lemma =>
                have hkind := h0
                rw [h0] at c0
                have CH := chain_torn HSB.out false v
                unfold Chain at CH
                have CH := Lib.hid CH
                go_wp2_with fail
                refine CH.out.mono ?_
                rintro e x1 ⟨rfl, ho1, H1⟩
                obtain ⟨m0, m1, m2, m3, _, mb⟩ := boxP_cells ho1
                rw [hkind] at m0
                clear CH
                go_wp2_with fail
                refine H1.out.mono ?_
                rintro e x2 ⟨r, rfl, ho2, H2⟩
                obtain ⟨n0, n1, n2, n3, _, nb⟩ := boxP_cells ho2
                rw [hkind] at n0
                clear H1
                go_wp2_with fail
                refine H2.out.mono ?_
                rintro e x3 ⟨rfl, ho3, H3⟩
                obtain ⟨p0, p1, p2, p3, _, pb⟩ := boxP_cells ho3
                rw [hkind] at p0
                clear H2
                obtain ⟨rfl, H4⟩ := H3.out
                have HST := Lib.hid H4.st
                clear H3 H4 ho1 ho2 ho3
                have HST2 := Lib.hid (HST.out.more (show _ ≤ k + 1 by omega))
                clear HST
                go_wp2_with fail
                go_meet
                exact ⟨sl, n, value, other, true, rfl, rfl, by first | rfl | go_num, rfl, rfl, by omega, HST2⟩
            by_cases h2 : s.kind = 2
            · as_aux_lemma =>
                have hkind := h2
                rw [h2] at c0
                have CH := chain_torn HSB.out true v
                unfold Chain at CH
                have CH := Lib.hid CH
                go_wp2_with fail
                refine CH.out.mono ?_
                rintro e x1 ⟨rfl, ho1, H1⟩
                obtain ⟨m0, m1, m2, m3, _, mb⟩ := boxP_cells ho1
                rw [hkind] at m0
                clear CH
                go_wp2_with fail
                refine H1.out.mono ?_
                rintro e x2 ⟨r, rfl, ho2, H2⟩
                obtain ⟨n0, n1, n2, n3, _, nb⟩ := boxP_cells ho2
                rw [hkind] at n0
                clear H1
                go_wp2_with fail
                refine H2.out.mono ?_
                rintro e x3 ⟨rfl, ho3, H3⟩
                obtain ⟨p0, p1, p2, p3, _, pb⟩ := boxP_cells ho3
                rw [hkind] at p0
                clear H2
                obtain ⟨rfl, H4⟩ := H3.out
                have HST := Lib.hid H4.st
                clear H3 H4 ho1 ho2 ho3
                have HST2 := Lib.hid (HST.out.more (show _ ≤ k + 1 by omega))
                clear HST
                go_wp2_with fail
                go_meet
                exact ⟨sl, n, value, other, true, rfl, rfl, by first | rfl | go_num, rfl, rfl, by omega, HST2⟩
            have e0 : ((s.kind : Int) == 0) = false := by rw [beq_eq_false_iff_ne]; exact h0
            have e2 : ((s.kind : Int) == 2) = false := by rw [beq_eq_false_iff_ne]; exact h2
            by_cases h1 : s.kind = 1
            · as_aux_lemma =>
                rw [h1] at c0
                have CA := Lib.hid (stb_again HT.out HSB.out (by omega) (.slice PA pl pc) s.picks HPK.out)
                obtain ⟨tv, htv⟩ : ∃ t, (value.toList == other.toList) = t := ⟨_, rfl⟩
                have hnn : ((n : Int) == (n : Int) + 1) = false := by rw [beq_eq_false_iff_ne]; omega
                clear HSB e0 e2 h0 h2
                go_wp2_with fail
                refine CA.out.mono ?_
                rintro e x1 ⟨rfl, H1⟩
                clear CA
                go_wp2_with fail
                refine H1.out.mono ?_
                rintro e x2 ⟨sl', rfl, H2⟩
                have CG0 := Lib.hid (st_get H2.out)
                clear H1
                go_wp2_with fail
                refine CG0.out.mono ?_
                rintro e x3 ⟨rfl, HST⟩
                clear CG0 H2
                cases tv with
                | true =>
                  have HST2 := Lib.hid (HST.out.more (show _ ≤ k + 1 by omega))
                  clear HST
                  go_wp2_with fail
                  go_meet
                  exact ⟨sl', n, value, other, false, rfl, rfl, by first | rfl | go_num, rfl, rfl, by omega, HST2⟩
                | false =>
                  have HST2 := Lib.hid (HST.out.more (show _ ≤ k + 1 by omega))
                  clear HST
                  go_wp2_with fail
                  go_meet
                  exact ⟨sl', n, value, other, false, rfl, rfl, by first | rfl | go_num, rfl, rfl, by omega, HST2⟩
            have e1 : ((s.kind : Int) == 1) = false := by rw [beq_eq_false_iff_ne]; exact h1
            by_cases h3 : s.kind = 3
            · as_aux_lemma =>
                rw [h3] at c0
                obtain ⟨t, ht3, hwt⟩ := place_mod s.room 3000 (by decide) (by decide)
                have hwt' : wrap64 ((IntKind.u64.wrap s.room).tmod 3000) = (t : Int) := hwt
                have htI : (t : Int) < 3000 := by omega
                have CL := Lib.hid (stb_limit HSB.out (2000 + (t : Int)))
                clear HSB hwt e0 e1 e2 h0 h1 h2
                go_wp2_with fail
                refine CL.out.mono ?_
                rintro e x1 ⟨m, rfl, HST⟩
                clear CL
                have HST2 := Lib.hid (HST.out.more (show _ ≤ k + 1 by omega))
                clear HST
                go_wp2_with fail
                go_meet
                exact ⟨sl, n, value, other, true, rfl, rfl, by first | rfl | go_num, rfl, rfl, by omega, HST2⟩
            have e3 : ((s.kind : Int) == 3) = false := by rw [beq_eq_false_iff_ne]; exact h3
            have HST := Lib.hid HSB.out.st
            clear HSB h0 h1 h2 h3
            have HST2 := Lib.hid (HST.out.more (show _ ≤ k + 1 by omega))
            clear HST
            go_wp2_with fail
            go_meet
            exact ⟨sl, n, value, other, true, rfl, rfl, by first | rfl | go_num, rfl, rfl, by omega, HST2⟩
          | false =>
            by_cases h0 : s.kind = 0
            · as_aux_lemma =>
                have hkind := h0
                rw [h0] at c0
                have CH := chain_free HT.out HSB.out (by omega) v hvv
                unfold Chain at CH
                have CH := Lib.hid CH
                go_wp2_with fail
                refine CH.out.mono ?_
                rintro e x1 ⟨rfl, ho1, H1⟩
                obtain ⟨m0, m1, m2, m3, _, mb⟩ := boxP_cells ho1
                rw [hkind] at m0
                clear CH
                go_wp2_with fail
                refine H1.out.mono ?_
                rintro e x2 ⟨r, rfl, ho2, H2⟩
                obtain ⟨n0, n1, n2, n3, _, nb⟩ := boxP_cells ho2
                rw [hkind] at n0
                clear H1
                go_wp2_with fail
                refine H2.out.mono ?_
                rintro e x3 ⟨rfl, ho3, H3⟩
                obtain ⟨p0, p1, p2, p3, _, pb⟩ := boxP_cells ho3
                rw [hkind] at p0
                clear H2
                rcases H3.out with ⟨rfl, H4⟩ | ⟨rfl, H4⟩
                · have HST := Lib.hid H4.st
                  clear H3 H4 ho1 ho2 ho3
                  have HST2 := Lib.hid (HST.out.more (show _ ≤ k + 1 by omega))
                  clear HST
                  go_wp2_with fail
                  go_meet
                  exact ⟨sl, (n + 1), v, other, false, rfl, rfl, by first | rfl | go_num, rfl, rfl, by omega, HST2⟩
                · have HST := Lib.hid H4.st
                  clear H3 H4 ho1 ho2 ho3
                  have HST2 := Lib.hid (HST.out.more (show _ ≤ k + 1 by omega))
                  clear HST
                  go_wp2_with fail
                  go_meet
                  exact ⟨sl, n, value, v, true, rfl, rfl, by first | rfl | go_num, rfl, rfl, by omega, HST2⟩
            by_cases h2 : s.kind = 2
            · as_aux_lemma =>
                have hkind := h2
                rw [h2] at c0
                have CH := chain_fault HT.out HSB.out (by omega) v hvv
                unfold Chain at CH
                have CH := Lib.hid CH
                go_wp2_with fail
                refine CH.out.mono ?_
                rintro e x1 ⟨rfl, ho1, H1⟩
                obtain ⟨m0, m1, m2, m3, _, mb⟩ := boxP_cells ho1
                rw [hkind] at m0
                clear CH
                go_wp2_with fail
                refine H1.out.mono ?_
                rintro e x2 ⟨r, rfl, ho2, H2⟩
                obtain ⟨n0, n1, n2, n3, _, nb⟩ := boxP_cells ho2
                rw [hkind] at n0
                clear H1
                go_wp2_with fail
                refine H2.out.mono ?_
                rintro e x3 ⟨rfl, ho3, H3⟩
                obtain ⟨p0, p1, p2, p3, _, pb⟩ := boxP_cells ho3
                rw [hkind] at p0
                clear H2
                obtain ⟨rfl, H4⟩ := H3.out
                have HST := Lib.hid H4.st
                clear H3 H4 ho1 ho2 ho3
                have HST2 := Lib.hid (HST.out.more (show _ ≤ k + 1 by omega))
                clear HST
                go_wp2_with fail
                go_meet
                exact ⟨sl, n, value, v, true, rfl, rfl, by first | rfl | go_num, rfl, rfl, by omega, HST2⟩
            have e0 : ((s.kind : Int) == 0) = false := by rw [beq_eq_false_iff_ne]; exact h0
            have e2 : ((s.kind : Int) == 2) = false := by rw [beq_eq_false_iff_ne]; exact h2
            by_cases h1 : s.kind = 1
            · as_aux_lemma =>
                rw [h1] at c0
                have CA := Lib.hid (stb_again HT.out HSB.out (by omega) (.slice PA pl pc) s.picks HPK.out)
                clear HSB e0 e2 h0 h2
                go_wp2_with fail
                refine CA.out.mono ?_
                rintro e x1 ⟨rfl, H1⟩
                clear CA
                go_wp2_with fail
                refine H1.out.mono ?_
                rintro e x2 ⟨sl', rfl, H2⟩
                have CG0 := Lib.hid (st_get H2.out)
                clear H1
                go_wp2_with fail
                refine CG0.out.mono ?_
                rintro e x3 ⟨rfl, HST⟩
                clear CG0 H2
                have HST2 := Lib.hid (HST.out.more (show _ ≤ k + 1 by omega))
                clear HST
                go_wp2_with fail
                go_meet
                exact ⟨sl', n, value, other, false, rfl, rfl, by first | rfl | go_num, rfl, rfl, by omega, HST2⟩
            have e1 : ((s.kind : Int) == 1) = false := by rw [beq_eq_false_iff_ne]; exact h1
            by_cases h3 : s.kind = 3
            · as_aux_lemma =>
                rw [h3] at c0
                obtain ⟨t, ht3, hwt⟩ := place_mod s.room 3000 (by decide) (by decide)
                have hwt' : wrap64 ((IntKind.u64.wrap s.room).tmod 3000) = (t : Int) := hwt
                have htI : (t : Int) < 3000 := by omega
                have CL := Lib.hid (stb_limit HSB.out (2000 + (t : Int)))
                clear HSB hwt e0 e1 e2 h0 h1 h2
                go_wp2_with fail
                refine CL.out.mono ?_
                rintro e x1 ⟨m, rfl, HST⟩
                clear CL
                have HST2 := Lib.hid (HST.out.more (show _ ≤ k + 1 by omega))
                clear HST
                go_wp2_with fail
                go_meet
                exact ⟨sl, n, value, other, false, rfl, rfl, by first | rfl | go_num, rfl, rfl, by omega, HST2⟩
            have e3 : ((s.kind : Int) == 3) = false := by rw [beq_eq_false_iff_ne]; exact h3
            have HST := Lib.hid HSB.out.st
            clear HSB h0 h1 h2 h3
            have HST2 := Lib.hid (HST.out.more (show _ ≤ k + 1 by omega))
            clear HST
            go_wp2_with fail
            go_meet
            exact ⟨sl, n, value, other, false, rfl, rfl, by first | rfl | go_num, rfl, rfl, by omega, HST2⟩
        case rest =>
          obtain ⟨sl, n, value, other, torn, rfl, rfl, rfl, rfl, rfl, hnk, HST⟩ := hcut
          cases torn with
          | true =>
            as_aux_lemma =>
              have CG := Lib.hid (st_get HST.out)
              have hcv : (value.toList == value.toList) = true := by simp
              go_wp2_with fail
              refine CG.out.mono ?_
              rintro e wA ⟨rfl, HA⟩
              have CT := Lib.hid (st_tell HA.out)
              clear CG HST
              go_wp2_with fail
              refine CT.out.mono ?_
              rintro e wB ⟨A1, l1, c1', t1, rfl, HB⟩
              clear CT HA
              go_wp2_with fail
              refine HB.out.mono ?_
              rintro e wC ⟨A2, l2, c2', t2, rfl, HC⟩
              clear HB
              go_wp2_with fail
              refine HC.out.mono ?_
              rintro e wD ⟨z, rfl, HD⟩
              clear HC
              go_wp2_with fail
              go_roundg g'
              case measure => omega
              case rel => exact ⟨k + 1, sl, n, value, other, true, by omega, by first | rfl | go_num, by omega, rfl, rfl, rfl, rfl, rfl, by omega, HD⟩
          | false =>
            as_aux_lemma =>
              have CG := Lib.hid (st_get HST.out)
              have hcv : (value.toList == value.toList) = true := by simp
              go_wp2_with fail
              refine CG.out.mono ?_
              rintro e wA ⟨rfl, HA⟩
              have CT := Lib.hid (st_tell HA.out)
              clear CG HST
              go_wp2_with fail
              refine CT.out.mono ?_
              rintro e wB ⟨A1, l1, c1', t1, rfl, HB⟩
              clear CT HA
              go_wp2_with fail
              refine HB.out.mono ?_
              rintro e wC ⟨A2, l2, c2', t2, rfl, HC⟩
              clear HB
              go_wp2_with fail
              refine HC.out.mono ?_
              rintro e wD ⟨z, rfl, HD⟩
              clear HC
              go_wp2_with fail
              go_roundg g'
              case measure => omega
              case rel => exact ⟨k + 1, sl, n, value, other, false, by omega, by first | rfl | go_num, by omega, rfl, rfl, rfl, rfl, rfl, by omega, HD⟩
    · have hlow := HS.out.low
      have hbr : ¬ (k : Int) < (len : Int) ∨ ((k : Int) < (len : Int) ∧ ¬ (k : Int) < 100) := by omega
      have HLOW := Lib.hid hlow
      clear hlow hlt HS HR
      rcases hbr with hx | ⟨hx, hy⟩
      all_goals
        go_wp2_with fail
        go_ret
        exact ⟨rfl, HLOW.out⟩

end Go.Proofs.YtdikmlnpclklnaaGreatDoor.Slot
