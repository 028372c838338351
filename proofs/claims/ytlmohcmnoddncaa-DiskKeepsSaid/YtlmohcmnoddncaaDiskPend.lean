/-
  Contract of the disk's Pending.
-/
import Derived.Test.YtlmohcmnoddncaaDiskRead
import Derived.LoopTactic
namespace Go.Proofs.Ytlmohcmnoddncaa.Disk
open Go Go.RowKit Go.Lib Go.Proofs.Ytlmohcmnoddncaa.Law

/-- Where a name's file lies. -/
theorem DiskAt.files {W : World} {O : Owner} {db : Nat} {D : DS} {F : ByteArray → Option Nat} (h : ∀ s ∈ D.names, ∃ fb, F s = some fb ∧ FileAt W O (db + 1) s fb (D.now s) (D.safe s) (mine s D.chs)) {s : ByteArray} (hs : s ∈ D.names) {g : Nat} (hF : F s = some g) :
    ∃ v : KV, FileV W O (db + 1) s g (D.now s) (D.safe s) (mine s D.chs) v := by
  obtain ⟨fb, h1, h2⟩ := h s hs
  rw [hF] at h1
  obtain rfl := Option.some.inj h1
  exact h2.vals

theorem chCount_erase (l : List (ByteArray × Chg)) {names : List ByteArray} {s : ByteArray} (hs : s ∈ names) : chCount names l = (mine s l).length + chCount (names.erase s) l := by
  rw [count_perm l (List.perm_cons_erase hs)]
  unfold chCount
  rw [List.map_cons, List.sum_cons]

set_option maxRecDepth 100000 in
set_option maxHeartbeats 2000000 in
theorem pending_calls (w : World) (O : Owner) (db : Nat) (D : DS) (h : DiskAt w O db D) (hw : WF D) (hmade : D.made ≤ 4294967296) :
    Calls Try.prog 28 #[.pointer (some ⟨db, 0, none⟩)] w fun e W => e = .returned (.int .i64 (D.chs.length : Nat)) ∧ Below w.heap.size w W := by
  obtain ⟨mb, F, hc, hf⟩ := id h
  obtain ⟨n, hn, hm⟩ := hc.map
  have hdb := hc.disk.lt
  have hmbl := hm.lt
  obtain ⟨w', cnt, hrun, hR, hG, hS⟩ := hm.rng Try.underlying9 Try.underlying62 D.names hw.nodup (fun s hs => hw.short hs) hc.dom
  have hcount := hw.countAll
  have hlen := hw.len
  obtain ⟨⟨d0, _⟩, _⟩ := hc.disk.cells
  have HF : Hid (∀ s ∈ D.names, ∀ g, F s = some g → g < w.heap.size ∧ ∃ A c, w.cell? ⟨g, 5, none⟩ = some (.slice A (mine s D.chs).length c)) := Lib.hid fun s hs g hg => by
    obtain ⟨v, hv⟩ := DiskAt.files hf hs hg
    exact ⟨hv.1.lt, _, _, hv.1.cells.1.2.2.2.2.2⟩
  obtain ⟨m, hm2⟩ : ∃ m, D.chs.length = m := ⟨_, rfl⟩
  rw [hm2] at hcount hlen ⊢
  have HRUN := Lib.hid hrun
  have HR := Lib.hid hR
  have hB0 : Below w.heap.size w w' := ⟨hG.os, hG.tape, hG.output, hG.size, fun k hk => hG.block k hk (by simp)⟩
  have HB0 := Lib.hid hB0
  have HCO := Lib.hid hcount
  have HWN := Lib.hid hw.nodup
  clear h hw hc hf hm hrun hR hG hB0 hcount
  go_enter Try.func28, Try.ntmps28
  go_wp2_with (first | (at_range; refine wpList_range_ran rfl _ _ rfl rfl HRUN.out ?_))
  go_frame
  go_loopw [3] (fun i wr => ∃ (k : Nat) (rest : List ByteArray) (c : Nat), i = .int .i64 k ∧ (∀ s ∈ rest, s ∈ D.names) ∧ Rng Try.prog 9 wr mb w.heap.size n F rest c ∧ Hid (k + chCount rest D.chs = m) ∧ Hid (Below w.heap.size w wr)) (fun _ wr => wr.rangeLeft mb w.heap.size)
  case atStart => exact ⟨0, D.names, cnt, rfl, fun _ h => h, HR.out, Lib.hid (by have := HCO.out; omega), HB0⟩
  case round =>
    obtain ⟨k, rest, c, rfl, hsub, hrng, HK, HB⟩ := hrel
    have hleft := hrng.left
    rcases hrng.next Try.underlying9 0 with ⟨rfl, hnx⟩ | ⟨s, g, w1, c1, hs, hF, hnx, hrng1, hlt, hg1, hs1, hen⟩
    · have HNX := Lib.hid hnx
      have hk : k = m := by have := HK.out; unfold chCount at this; simpa using this
      subst hk
      clear hnx hrng hleft
      go_wp2_with (first | (at_next; refine wpList_next_ran rfl _ _ rfl rfl HNX.out ?_))
      go_ret
      exact ⟨rfl, HB.out⟩
    · have HNX := Lib.hid hnx
      have HEN := Lib.hid hen
      obtain ⟨hgl, A, cc, hcell⟩ := HF.out s (hsub s hs) g hF
      have hB1 : Below w.heap.size w w1 := HB.out.grown hg1 HB.out.size (fun k e => by cases e; exact Nat.le_refl _)
      have hcell1 : w1.cell? ⟨g, 5, none⟩ = some (.slice A (mine s D.chs).length cc) := (hB1.cell (p := ⟨g, 5, none⟩) hgl).trans hcell
      have hke := chCount_erase D.chs hs
      have hkk := HK.out
      obtain ⟨l, hl⟩ : ∃ l, (mine s D.chs).length = l := ⟨_, rfl⟩
      rw [hl] at hcell1 hke
      have hkl : k + l ≤ 4294967296 := by omega
      have HR1 := Lib.hid hrng1
      have HK1 : Hid (k + l + chCount (rest.erase s) D.chs = m) := Lib.hid (by omega)
      have HB1 := Lib.hid hB1
      have hl1 := hrng1.left
      clear hnx hen hrng hrng1 hcell hke hkk hl hB1 hg1 HK HB
      go_wp2_with (first | (at_next; refine wpList_next_ran rfl _ _ rfl rfl HNX.out ?_) | (refine wpList_entry_ran (o := ⟨some 15, _, _, _, _, _⟩) rfl _ rfl rfl HEN.out ?_))
      go_roundw
      case rel => exact ⟨k + l, rest.erase s, c1, by go_num, fun x hx => hsub x (List.mem_of_mem_erase hx), HR1.out, HK1, HB1⟩
      case measure => rw [hleft, hl1]; exact hlt

end Go.Proofs.Ytlmohcmnoddncaa.Disk
