/-
  The contract of the statements' own helper row: the frames of up to forty payloads, one behind the other, and where each ends; nothing, if one is too long.
-/
import Derived.Test.YtmflcpkkeejjpaaDoorFrameKnown
import Derived.Test.YtmflcpkkeejjpaaDoorFrameRefCut
namespace Go.Proofs.YtmflcpkkeejjpaaDoor.Frame
open Go.RowKit Go.Shelf Go.Proofs.YtmflcpkkeejjpaaDoor.Law Go.Proofs.YtmflcpkkeejjpaaDoor.Crc

theorem owns_other {W : World} {base base' n n' size size' : Nat} {e e' : TypeId} {v v' : Value} {xs xs' : List Value} (h : W.ownsRow base e size v n xs) (h' : W.ownsRow base' e' size' v' n' xs') (hne : e ≠ e') : v.ownBlock = none ∨ v.ownBlock ≠ v'.ownBlock := by
  rcases h.2 with ⟨rfl, _⟩ | ⟨g, cap, cur, rfl, _, hg, _⟩
  · exact .inl rfl
  · rcases h'.2 with ⟨rfl, _⟩ | ⟨g', cap', cur', rfl, _, hg', _⟩
    · exact .inr (by simp [Value.ownBlock])
    · refine .inr fun e2 => ?_
      obtain rfl : g = g' := by simpa [Value.ownBlock] using e2
      rw [hg] at hg'
      have := Option.some.inj hg'
      injection this with _ h2 _
      exact hne h2

/-- Where the frames end. -/
def endsV (pss : List (List Nat)) (k : Nat) : List Value := (List.range k).map fun j => Value.int .i64 ((rowN (pss.take (j + 1))).length : Nat)
theorem endsV_length (pss : List (List Nat)) (k : Nat) : (endsV pss k).length = k := by simp [endsV]
theorem endsV_succ (pss : List (List Nat)) (k : Nat) : endsV pss (k + 1) = endsV pss k ++ [Value.int .i64 ((rowN (pss.take (k + 1))).length : Nat)] := by simp [endsV, List.range_succ]
theorem endsV_get (pss : List (List Nat)) (k j : Nat) (h : j < k) : (endsV pss k)[j]? = some (Value.int .i64 ((rowN (pss.take (j + 1))).length : Nat)) := by simp [endsV, h]

def shortAll (ps : List (List Nat)) : Prop := ∀ p ∈ ps, p.length ≤ 65536
theorem rowN_le : ∀ (ps : List (List Nat)), shortAll ps → (rowN ps).length ≤ 65548 * ps.length
  | [], _ => by simp [rowN]
  | p :: ps, h => by
    have h1 := h p (by simp)
    have h2 := rowN_le ps (fun q hq => h q (by simp [hq]))
    have e : rowN (p :: ps) = frameN p ++ rowN ps := rfl
    rw [e, List.length_append, frameN_length, List.length_cons]
    omega
theorem take_getD (pss : List (List Nat)) (k : Nat) (h : k < pss.length) : pss.take (k + 1) = pss.take k ++ [pss.getD k []] := by
  rw [List.take_succ_eq_append_getElem h]; simp [List.getD, h]
theorem rowN_take_succ (pss : List (List Nat)) (k : Nat) (h : k < pss.length) : rowN (pss.take (k + 1)) = rowN (pss.take k) ++ frameN (pss.getD k []) := by
  rw [take_getD pss k h, rowN_snoc]

/-- What row hands back. -/
def RowSays (w : World) (pss : List (List Nat)) (e : Ending) (W : World) : Prop :=
  (¬ shortAll (pss.take 40) ∧ e = .returned (.tuple #[.slice none 0 0, .slice none 0 0, .bool false]) ∧ Below w.heap.size w W) ∨
  (shortAll (pss.take 40) ∧ ∃ v ev, e = .returned (.tuple #[v, ev, .bool true]) ∧ OwnB W w.heap.size 5 v (rowN (pss.take 40)) ∧ W.ownsRow w.heap.size 3 1 ev (pss.take 40).length (endsV (pss.take 40) (pss.take 40).length) ∧ Below w.heap.size w W)

theorem info_int : (Tryd.prog.info? 3).map (fun i => (i.zero, i.size, i.bytes)) = some (some (.int .i64 0), 1, 8) := by kernel_rfl

theorem endsV_take (pss : List (List Nat)) (k m : Nat) (h : k ≤ m) : endsV (pss.take m) k = endsV pss k := by
  unfold endsV
  apply List.map_congr_left
  intro j hj
  rw [List.take_take, Nat.min_eq_left (by have := List.mem_range.1 hj; omega)]

/-- The cells of the row of ends. -/
theorem ends_cells {W : World} {base n c : Nat} {A : Option Addr} {ps : List (List Nat)} (h : W.ownsRow base 3 1 (.slice A n c) n (endsV ps n)) (hp : 0 < n) :
    ∃ g, A = some ⟨g, 0, none⟩ ∧ ∀ j, j < n → W.cell? ⟨g, j, none⟩ = some (.int .i64 ((rowN (ps.take (j + 1))).length : Nat)) := by
  have hcell := fun (g : Nat) (hg : (Value.slice A n c).ownBlock = some g) => h.cells hg
  rcases h.2 with ⟨_, h0⟩ | ⟨g, cap, cur, e, _⟩
  · omega
  · simp only [Value.slice.injEq] at e
    obtain ⟨rfl, -, -⟩ := e
    refine ⟨g, rfl, fun j hj => ?_⟩
    have := hcell g rfl j _ (endsV_get ps n j hj)
    rwa [Addr.add_lit, Nat.zero_add] at this

set_option maxRecDepth 100000 in
set_option maxHeartbeats 4000000 in
theorem row_calls (sv : Value) (pss : List (List Nat)) (w : World) (hT : Tab w) (hI : ByteRows w.heap.size w sv pss) :
    Calls Tryd.prog 20 #[sv] w (RowSays w pss) := by
  obtain ⟨i0, hi, hz0, hz1, hz2⟩ := info_parts info_u8'
  obtain ⟨j0, ji, jz0, jz1, jz2⟩ := info_parts info_int
  obtain ⟨A, cap, rfl⟩ := hI.form
  obtain ⟨len, hlen⟩ : ∃ len, pss.length = len := ⟨_, rfl⟩
  rw [hlen] at hI ⊢
  have HI := Lib.hid hI
  have HL := Lib.hid hlen
  have HT := Lib.hid hT
  clear hI hlen hT
  go_enter Tryd.func20, Tryd.ntmps20
  go_wp2
  go_loopw [5, 6, 7] (fun v ev i wr => ∃ k : Nat, k ≤ len ∧ k ≤ 40 ∧ i = .int .i64 k ∧ shortAll (pss.take k) ∧ OwnB wr w.heap.size 5 v (rowN (pss.take k)) ∧ wr.ownsRow w.heap.size 3 1 ev k (endsV pss k) ∧ Below w.heap.size w wr) (fun _ _ i _ => 40 - (intOf i).toNat)
  case atStart => exact ⟨0, Nat.zero_le _, by omega, rfl, (fun p hp => by simp at hp), ownB_nil _ _ _, World.ownsRow_nil _ _ _ _, Below.refl _ _⟩
  case round =>
    obtain ⟨k, hk, hk40, rfl, hsh, hO, hE, hB⟩ := hrel
    have hle := rowN_le _ hsh
    have htk : (pss.take k).length = k := by rw [List.length_take, HL.out]; omega
    rw [htk] at hle
    by_cases hlt : k < len ∧ k < 40
    · obtain ⟨hlt, h40⟩ := hlt
      obtain ⟨b, off, rfl, hb, hcs⟩ := (HI.out.below hB).cells (by omega)
      obtain ⟨vk, hck, hIk⟩ := hcs k hlt
      have hIk2 := hIk.more hB.size
      have hkI : (k : Int) < (len : Int) := by omega
      have cP := put_calls vk (pss.getD k []) wr (HT.out.below hB) hIk2
      obtain ⟨Ak, ck, rfl⟩ := hIk.form
      have hsucc := rowN_take_succ pss k (by rw [HL.out]; omega)
      have hends := endsV_succ pss k
      have htake := take_getD pss k (by rw [HL.out]; omega)
      by_cases hlong : (pss.getD k []).length ≤ 65536
      · have hputn : putN (pss.getD k []) = (frameN (pss.getD k []), 0) := by unfold putN; rw [if_pos hlong]
        rw [hputn] at cP
        have hfl := frameN_length (pss.getD k [])
        obtain ⟨R, hR⟩ : ∃ R, rowN (pss.take k) = R := ⟨_, rfl⟩
        obtain ⟨R2, hR2⟩ : ∃ R, rowN (pss.take (k + 1)) = R := ⟨_, rfl⟩
        have hsh2 : shortAll (pss.take (k + 1)) := by
          rw [htake]; intro p hp
          rcases List.mem_append.1 hp with h | h
          · exact hsh p h
          · rw [List.mem_singleton.1 h]; exact hlong
        rw [hR] at hsucc hO hle
        rw [hR2] at hsucc hends
        obtain ⟨p, hp⟩ : ∃ p, pss.getD k [] = p := ⟨_, rfl⟩
        rw [hp] at hck cP hlong hsucc hfl
        obtain ⟨pl, hpl⟩ : ∃ pl, p.length = pl := ⟨_, rfl⟩
        rw [hpl] at hck cP hlong hfl
        obtain ⟨f, hf⟩ : ∃ f, frameN p = f := ⟨_, rfl⟩
        rw [hf] at cP hsucc hfl
        have hR2l : R2.length ≤ 5000000 := by rw [hsucc, List.length_append]; omega
        have hroom : R.length + f.length ≤ 140737488355328 := by omega
        have CP := Lib.hid cP
        have HS := Lib.hid hsucc
        have HE := Lib.hid hends
        have HSH := Lib.hid hsh2
        have HR2 := Lib.hid hR2
        have HRM := Lib.hid hroom
        clear cP hsucc hends hsh2 hputn htake htk hcs hIk hIk2 hR hp hpl hf hsh hR2 hroom hfl hle
        go_wp2_with fail
        refine CP.out.mono ?_
        rintro e w1 ⟨v1, rfl, O1, B1⟩
        have hO1 := hO.below B1
        have hE1 := hE.kept (grown_of_below B1) (by cases hh : (_ : Value).ownBlock <;> simp)
        have hB1 := hB.trans (B1.mono hB.size)
        have I1 := O1.bytes
        have hb1 := hB1.size
        have HO1 := Lib.hid hO1
        have HI1 := Lib.hid I1
        clear CP hO hE hB B1 O1 hO1 I1 hck
        go_wp2_with (at_builtin; refine wpList_append_bytes rfl _ _ _ rfl Tryd.underlying22 hi hz0 hz1 hz2 rfl rfl rfl HO1.out HI1.out HRM.out hb1 ?next)
        case next =>
          intro v2 w2 O2 G2
          have hE2 := hE1.kept G2 (owns_other hE1 HO1.out.1 (by decide))
          have hB2 := below_append hB1 G2 HO1.out (Nat.le_refl _) hb1
          rw [← HS.out] at O2
          obtain ⟨A2, c2, rfl⟩ := O2.bytes.form
          obtain ⟨rl, hrl⟩ : ∃ rl, R2.length = rl := ⟨_, rfl⟩
          rw [hrl] at O2 hR2l ⊢
          have HRL := Lib.hid hrl
          have HO2 := Lib.hid O2
          have hb2 := hB2.size
          clear G2 HO1 HI1 hE1 hB1 O2 hrl
          go_wp2_with (at_builtin; refine wpList_append_own_at _ rfl _ _ 44 rfl w.heap.size 3 j0 (.int .i64 0) 1 8 Tryd.underlying44 ji jz0 jz1 jz2 rfl (by decide) _ _ _ rfl (hE2.alloc _) ⟨w2.heap.size, 0, none⟩ 1 1 [.int .i64 (rl : Nat)] rfl rfl (cell_one_new _ _ _) (by simp [Value.oneCell']) (by simp only [maxLen]; omega) (by omega) (by simp; omega) ?_; intro ev w5 hown' hgrow _ _)
          go_roundw
          case rel =>
            refine ⟨k + 1, by omega, by omega, by go_num, HSH.out, ?_, ?_, below_appended hB2 hE2 hgrow hb2⟩
            · rw [HR2.out]
              exact (HO2.out.alloc (.cells #[.int .i64 (rl : Nat)] 3)).kept hgrow (owns_other (HO2.out.alloc (.cells #[.int .i64 (rl : Nat)] 3)).1 (hE2.alloc (.cells #[.int .i64 (rl : Nat)] 3)) (by decide))
            · rw [HE.out, HRL.out]; exact hown'
          case measure => simp [intOf]; omega
      · have hputn : putN (pss.getD k []) = ([], 2) := by unfold putN; rw [if_neg hlong]
        rw [hputn] at cP
        have hbad : ¬ shortAll (pss.take 40) := by
          intro h
          apply hlong
          apply h
          have h1 : pss.getD k [] = pss[k]'(by rw [HL.out]; omega) := by simp [List.getD, show k < pss.length by rw [HL.out]; omega]
          rw [h1]
          exact List.mem_take_iff_getElem.2 ⟨k, by rw [HL.out]; omega, rfl⟩
        obtain ⟨p, hp⟩ : ∃ p, pss.getD k [] = p := ⟨_, rfl⟩
        rw [hp] at hck cP
        obtain ⟨pl, hpl⟩ : ∃ pl, p.length = pl := ⟨_, rfl⟩
        rw [hpl] at hck cP
        have CP := Lib.hid cP
        have HBAD := Lib.hid hbad
        clear cP hsucc hends hputn htake htk hcs hIk hIk2 hp hpl hlong hsh hO hE hbad hle
        go_wp2_with fail
        refine CP.out.mono ?_
        rintro e w1 ⟨v1, rfl, -, B1⟩
        go_wp2
        go_ret3
        exact .inl ⟨HBAD.out, rfl, hB.trans (B1.mono hB.size)⟩
    · have hk2 : (pss.take 40).length = k := by rw [List.length_take, HL.out]; omega
      have hall : pss.take 40 = pss.take k := by
        by_cases h : k = 40
        · rw [h]
        · rw [List.take_of_length_le (by rw [HL.out]; omega), List.take_of_length_le (by rw [HL.out]; omega)]
      have hE' := hE
      rw [← endsV_take pss k 40 hk40, ← hk2] at hE'
      rw [← hall] at hsh hO
      have HO := Lib.hid hO
      have HE := Lib.hid hE'
      have HSH := Lib.hid hsh
      clear hO hE hE' hsh hall hk2 htk
      by_cases h1 : k < len
      · have h40 : k = 40 := by omega
        subst h40
        have hkI : (40 : Int) < (len : Int) := by omega
        go_wp2
        go_ret3
        exact .inr ⟨HSH.out, _, _, rfl, HO.out, HE.out, hB⟩
      · have hkl : k = len := by omega
        subst hkl
        go_wp2
        go_ret3
        exact .inr ⟨HSH.out, _, _, rfl, HO.out, HE.out, hB⟩

end Go.Proofs.YtmflcpkkeejjpaaDoor.Frame
