/-
  Contract of maps.Copy at tables.
-/
import Derived.Test.YtmfndimejnbgkaaModelRise
namespace Go.Proofs.Ytmfndimejnbgkaa.Model
open Go Go.RowKit Go.Lib Go.Sort Go.Shelf Go.Maps Go.Proofs.Ytmfndimejnbgkaa.Law Go.Proofs.Ytmfndimejnbgkaa.Graph Go.Proofs.Ytmfndimejnbgkaa.Fold

/-- One table over another one. -/
def overF (Fs Fd : ByteArray → Option Nat) : ByteArray → Option Nat := fun k => match Fs k with | some v => some v | none => Fd k
def partF (rest : List ByteArray) (Fs Fd : ByteArray → Option Nat) : ByteArray → Option Nat := fun k => if k ∈ rest then Fd k else overF Fs Fd k
/-- A range over a table under way. -/
def RngU (W : World) (b r n : Nat) (F : ByteArray → Option Nat) (rest : List ByteArray) (cnt : Nat) : Prop := RngV sK W b r n (fun k => (F k).map u32V) rest cnt
theorem MapU.rng {W : World} {b n : Nat} {F : ByteArray → Option Nat} (h : MapU W b n F) {ks : List ByteArray} (hn : ks.Nodup) (hs : ∀ s ∈ ks, Short s) (hd : ∀ s, Short s → ((F s).isSome ↔ s ∈ ks)) :
    ∃ w' cnt, (Instr.range 130 (.map (some b))).run Try.prog W = .ok (.pointer (some ⟨W.heap.size, 0, none⟩)) w' ∧ RngU w' b W.heap.size n F ks cnt ∧ W.grownBy w' none ∧ w'.heap.size = W.heap.size + 1 :=
  MapV.rng h Try.underlying130 ks hn hs fun s hsh => by
    rw [← hd s hsh]
    show ((F s).map u32V).isSome = true ↔ _
    cases F s <;> simp
theorem RngU.next {W : World} {b r n cnt : Nat} {F : ByteArray → Option Nat} {rest : List ByteArray} (h : RngU W b r n F rest cnt) (ty : TypeId) :
    (rest = [] ∧ (Instr.next (.pointer (some ⟨r, 0, none⟩)) false ty).run Try.prog W = .ok (.tuple #[.bool false]) W) ∨
    ∃ s v w' cnt', s ∈ rest ∧ Short s ∧ F s = some v ∧ (Instr.next (.pointer (some ⟨r, 0, none⟩)) false ty).run Try.prog W = .ok (.tuple #[.bool true, .string s, .int .u32 (v : Nat)]) w' ∧
      RngU w' b r n F (cut rest s) cnt' ∧ cnt' < cnt ∧ W.grownBy w' (some r) ∧ w'.heap.size = W.heap.size ∧ (Instr.entry (.pointer (some ⟨r, 0, none⟩))).run Try.prog w' = .ok (.tuple #[.string s, .int .u32 (v : Nat)]) w' := by
  rcases RngV.next h ty with h1 | ⟨s, v, w', cnt', h1, h2, h3, h4, h5, h6, h7, h8, h9⟩
  · exact .inl h1
  · obtain ⟨y, hy, rfl⟩ : ∃ y, F s = some y ∧ v = u32V y := by
      cases hF : F s with
      | none => rw [hF] at h3; cases h3
      | some y => rw [hF] at h3; exact ⟨y, rfl, (Option.some.inj h3).symm⟩
    exact .inr ⟨s, y, w', cnt', h1, h2, hy, h4, h5, h6, h7, h8, h9⟩

set_option maxRecDepth 100000 in
set_option maxHeartbeats 4000000 in
theorem copyM_calls (bd bs nd ns : Nat) (Fd Fs : ByteArray → Option Nat) (ks : List ByteArray) (hn : ks.Nodup) (hs : ∀ s ∈ ks, Short s) (hd : ∀ s, Short s → ((Fs s).isSome ↔ s ∈ ks)) (hne : bd ≠ bs) (hlen : nd + ks.length ≤ 5864062014805000) (w : World) (h1 : MapU w bd nd Fd) (h2 : MapU w bs ns Fs) :
    Calls Try.prog 75 #[.map (some bd), .map (some bs)] w fun e w' => e = .returned (.tuple #[]) ∧ MapU w' bd (nd + ks.length) (overF Fs Fd) ∧ w.grownBy w' (some bd) := by
  obtain ⟨w1, cnt, hrun, hR, hG, hS⟩ := h2.rng hn hs hd
  obtain ⟨q, hq⟩ : ∃ q, w.heap.size = q := ⟨_, rfl⟩
  have hbd := h1.lt
  have hbs := h2.lt
  have hM1 : MapU w1 bd (nd + (ks.length - ks.length)) (partF ks Fs Fd) := by
    rw [Nat.sub_self, Nat.add_zero]
    refine MapV.same (MapV.kept h1 hG (by simp)) fun s hsh => ?_
    show (Fd s).map u32V = (partF ks Fs Fd s).map u32V
    unfold partF overF
    split
    · rfl
    · rename_i hno
      cases hF : Fs s with
      | none => rfl
      | some v => exact absurd ((hd s hsh).1 (by rw [hF]; rfl)) hno
  rw [hq] at hrun hR hbd hbs
  have HRUN := Lib.hid hrun
  have HR := Lib.hid hR
  have HM := Lib.hid hM1
  have HG : Hid (w.grownBy w1 (some bd)) := Lib.hid ⟨hG.os, hG.tape, hG.output, hG.size, fun k hk _ => hG.block k hk (by simp)⟩
  have HN := Lib.hid hn
  have HL := Lib.hid hlen
  have HQ := Lib.hid hq
  clear hrun hR hM1 hG h1 h2 hn hs hd hlen hS hq
  go_enter Try.func75, Try.ntmps75
  go_wp2_with (first | (at_range; refine wpList_range_ran rfl _ _ rfl rfl HRUN.out ?_))
  go_frame
  go_loopw [8] (fun _ wr => ∃ (rest : List ByteArray) (c : Nat), RngU wr bs q ns Fs rest c ∧ Hid (MapU wr bd (nd + (ks.length - rest.length)) (partF rest Fs Fd) ∧ rest.length ≤ ks.length ∧ rest.Nodup ∧ w.grownBy wr (some bd))) (fun _ wr => wr.rangeLeft bs q)
  case atStart => exact ⟨ks, cnt, HR.out, Lib.hid ⟨HM.out, Nat.le_refl _, HN.out, HG.out⟩⟩
  case round =>
    obtain ⟨rest, c, hrng, HO⟩ := hrel
    have hleft := RngV.left hrng
    rcases hrng.next 0 with ⟨rfl, hnx⟩ | ⟨s, v, w2, c2, hsr, hsh, hF, hnx, hrng2, hlt, hg2, hs2, hen⟩
    · have HNX := Lib.hid hnx
      obtain ⟨hM, _, _, hGw⟩ := HO.out
      have HF : Hid (MapU wr bd (nd + ks.length) (overF Fs Fd) ∧ w.grownBy wr (some bd)) := Lib.hid ⟨(MapV.same hM fun s _ => by
        show (partF [] Fs Fd s).map u32V = _
        unfold partF; simp), hGw⟩
      clear hnx hrng hleft hM hGw HO
      go_wp2_with (first | (at_next; refine wpList_next_ran rfl _ _ rfl rfl HNX.out ?_))
      go_end0
      exact ⟨rfl, HF.out⟩
    · obtain ⟨hM, hle, hnd, hGw⟩ := HO.out
      have hgs := hGw.size
      rw [HQ.out] at hgs
      have hM2 : MapU w2 bd (nd + (ks.length - rest.length)) (partF rest Fs Fd) := MapV.kept hM hg2 (fun e => by cases e; omega)
      obtain ⟨W3, R3, M3, G3, s3⟩ := hM2.store (by have := HL.out; omega) hsh v
      have hrl := cut_length hsr
      have hM3 : MapU W3 bd (nd + (ks.length - (cut rest s).length)) (partF (cut rest s) Fs Fd) := by
        refine MapV.mono (MapV.same M3 fun x _ => ?_) (by omega)
        show (if x = s then some v else partF rest Fs Fd x).map u32V = (partF (cut rest s) Fs Fd x).map u32V
        congr 1
        unfold partF overF
        by_cases hx : x = s
        · subst hx
          rw [if_pos rfl, if_neg (fun e => ((mem_cut hnd).1 e).1 rfl), hF]
        · rw [if_neg hx]
          by_cases hm : x ∈ rest
          · rw [if_pos hm, if_pos ((mem_cut hnd).2 ⟨hx, hm⟩)]
          · rw [if_neg hm, if_neg (fun e => hm ((mem_cut hnd).1 e).2)]
      have hr3 : RngU W3 bs q ns Fs (cut rest s) c2 := RngV.kept hrng2 G3 (fun e => by cases e; exact hne rfl) (fun e => by cases e; omega)
      have hG3 : w.grownBy W3 (some bd) := (hGw.andThen hg2 (fun j hj => .inl (by cases hj; rw [HQ.out]; exact Nat.le_refl _))).andThen G3 (fun j hj => .inr hj)
      have hl3 := RngV.left hr3
      have HNX := Lib.hid hnx
      have HEN := Lib.hid hen
      have HR3 := Lib.hid R3
      have HRG := Lib.hid hr3
      have HF' : Hid (MapU W3 bd (nd + (ks.length - (cut rest s).length)) (partF (cut rest s) Fs Fd) ∧ (cut rest s).length ≤ ks.length ∧ (cut rest s).Nodup ∧ w.grownBy W3 (some bd)) := Lib.hid ⟨hM3, by omega, cut_nodup hnd _, hG3⟩
      clear hnx hen hrng hrng2 hM hM2 R3 M3 G3 hM3 hr3 hG3 HO hgs hGw hnd hle hg2 hrl hF hsh
      go_wp2_with (first | (at_next; refine wpList_next_ran rfl _ _ rfl rfl HNX.out ?_) | (refine wpList_entry_ran (o := ⟨some 10, _, _, _, _, _⟩) rfl _ rfl rfl HEN.out ?_) | (at_mapUpdate; refine wpList_mapUpdate_ran rfl _ _ _ _ rfl rfl rfl rfl HR3.out ?_))
      go_roundw
      case rel => exact ⟨_, _, _, _, _, _, _, _, _, _, ⟨cut rest s, c2, HRG.out, HF'⟩, rfl⟩
      case measure => rw [hleft, hl3]; exact hlt

end Go.Proofs.Ytmfndimejnbgkaa.Model
