/-
  Contract of the disk's Write: the whole of it.
-/
import Derived.Test.YtlmohcmnoddncaaDiskWrite2
namespace Go.Proofs.Ytlmohcmnoddncaa.Disk
open Go Go.RowKit Go.Lib Go.Proofs.Ytlmohcmnoddncaa.Law

/-- What a write leaves. -/
def WroteD (w : World) (O : Owner) (db : Nat) (D : DS) (s : ByteArray) (k : Int) (d : ByteArray) (e : Ending) (W : World) : Prop :=
  e = .returned (.int .i64 (D.writeN s k d.size : Nat)) ∧ ∃ O', DiskAt W O' db (D.write s k d) ∧ Past w O W O'

set_option maxRecDepth 100000 in
set_option maxHeartbeats 4000000 in
theorem write_old (w : World) (O : Owner) (db : Nat) (D : DS) (h : DiskAt w O db D) (hw : WF D) (hmade : D.made ≤ 4294967296) (s : ByteArray) (k : Nat) (dv : Value) (d : ByteArray) (hdl : d.size ≤ 140737488351232) (hI : Bytes w.heap.size w dv (bytesS d)) (h0 : D.writeN s (k : Nat) d.size = 0) (hin : s ∈ D.names) :
    Calls Try.prog 21 #[.pointer (some ⟨db, 0, none⟩), .string s, .int .i64 (k : Nat), dv] w fun e W => e = .returned (.int .i64 0) ∧ ∃ O', DiskAt W O' db (D.wrote s k d) ∧ Past w O W O' := by
  obtain ⟨hr, hk, hfit⟩ := writeN_zero h0
  rw [Int.toNat_natCast] at hk hfit
  obtain ⟨hfail, hright, _⟩ := refN_zero hr
  have hs := short_right hright
  obtain ⟨mb, F, hc, hf⟩ := id h
  obtain ⟨fb, hF, hfile⟩ := hf s hin
  obtain ⟨v, hv⟩ := hfile.vals
  obtain ⟨n, hn, hm⟩ := hc.map
  have hdb := hc.disk.lt
  have hmbl : mb < w.heap.size := hc.lt mb (by rw [hc.omb]; simp)
  have CR := Lib.hid (refusal_calls db mb _ _ _ _ s (by have := short_right hright; unfold Short at this; simp only [maxLen] at this; omega) (k : Int) w hc.disk)
  rw [hr] at CR
  have hnow := hw.nowLe s
  have hus := hw.usedLe
  have hrm := hw.room
  have hu2 : D.used ≤ 4611686018427387904 := Nat.le_trans hus (Nat.le_trans (Nat.mul_le_mul_right _ hmade) (by decide))
  have CK : Hid (∀ W, Below w.heap.size w W → ∃ (na sa ca : Option Addr) (nc sl sc cl cc : Nat) (nt st sh : Bool), Calls Try.prog 40 #[.pointer (some ⟨db, 0, none⟩), .string s] W (KnownOut W (.agg #[.bool nt, .slice na (szO (D.now s)) nc, .bool st, .slice sa sl sc, .bool sh, .slice ca cl cc]))) := Lib.hid fun W hB => by
    obtain ⟨v, ns, sl, cl, nt, st, ⟨_, rfl, _, _⟩, _, _, hc⟩ := known_at (h.below hB) hw s hs
    exact ⟨v.na, v.sa, v.ca, v.nc, sl, v.sc, cl, v.cc, nt, st, v.sh, hc⟩
  obtain ⟨dA, dcap, rfl⟩ := hI.form
  have hbl := bytesS_length d
  rw [hbl] at hI ⊢
  -- in a world that left all
  have HX : Hid (∀ W, Below w.heap.size w W → (W.cell? ⟨db, 0, none⟩ = some (.map (some mb)) ∧ W.cell? ⟨db, 1, none⟩ = some (.int .i64 (D.room : Int)) ∧ W.cell? ⟨db, 2, none⟩ = some (.int .i64 (D.used : Int))) ∧
      (Instr.lookup 62 (.map (some mb)) (.string s) false).run Try.prog W = .ok (.pointer (some ⟨fb, 0, none⟩)) W ∧
      (convert 34 9 (.slice dA d.size dcap)).run Try.prog W = .ok (.string d) W) := Lib.hid fun W hB => by
    have hd := hc.disk.below hB
    refine ⟨⟨hd.cells.1.1, hd.cells.1.2.1, hd.cells.1.2.2.1⟩, ?_, ?_⟩
    · have := (hm.at (W' := W) (hB.block _ hmbl)).look Try.underlying9 Try.underlying62 (zero_ptr _) hs
      rwa [hF] at this
    · have := run_string_bytes (P := Try.prog) W (src := 34) (dst := 9) Try.underlying34 Try.underlying5 Try.underlying9 (hI.below hB)
      rw [this]
      have e : str (bytesS d) = d := by
        unfold str bytesS
        rw [List.map_map]
        have : (UInt8.ofNat ∘ UInt8.toNat) = id := by funext x; simp
        rw [this, List.map_id]
      rw [e]
  have HC : Hid (∀ W0 b, Below w.heap.size w W0 → w.heap.size ≤ b → BoxC W0 b ⟨0, 0, k, d⟩ → Calls Try.prog 47 #[.pointer (some ⟨fb, 0, none⟩), .agg #[.int .i64 0, .int .i64 0, .int .i64 (k : Nat), .string d]] W0 fun e W3 => e = .returned (.tuple #[]) ∧
      (W3.cell? ⟨b, 0, none⟩ = some (.int .i64 0) ∧ W3.cell? ⟨b, 1, none⟩ = some (.int .i64 0) ∧ W3.cell? ⟨b, 2, none⟩ = some (.int .i64 (k : Nat)) ∧ W3.cell? ⟨b, 3, none⟩ = some (.string d)) ∧
      Hid (Calls Try.prog 48 #[.pointer (some ⟨db, 0, none⟩), .pointer (some ⟨fb, 0, none⟩), .agg #[.int .i64 0, .int .i64 0, .int .i64 (k : Nat), .string d]] W3 fun e W4 => e = .returned (.tuple #[]) ∧
        (W4.cell? ⟨db, 2, none⟩ = some (.int .i64 (D.used : Int)) ∧ W4.frozen? ⟨db, 2, none⟩ = false) ∧
        Hid (∃ O', DiskAt (W4.setCell ⟨db, 2, none⟩ (.int .i64 ((D.used + (k + d.size - szO (D.now s)) : Nat) : Int))) O' db (D.wrote s k d) ∧ Past w O (W4.setCell ⟨db, 2, none⟩ (.int .i64 ((D.used + (k + d.size - szO (D.now s)) : Nat) : Int))) O'))) := Lib.hid fun W0 b hB hb hbox => by
    have hv0 : FileV W0 (own O w.heap.size W0.heap.size s) (db + 1) s fb (D.now s) (D.safe s) (mine s D.chs) v := by
      obtain ⟨v1, v2, v3, v4, v5, v6, v7⟩ := hv
      refine ⟨v1.below hB, v2.below hB, v3.below hB, v4, v5.keep fun g hg => hB.block g (v5.own g hg).2, ?_, fun g hg => ?_⟩
      · rw [own_old v1.lt]; exact v6
      · have hgl : g < w.heap.size := by
          rcases hg with hg | hg | hg
          · exact (v2.own g hg).2
          · exact (v3.own g hg).2
          · exact (v5.own g hg).2
        rw [own_old hgl]; exact v7 g hg
    exact write_chain (F' := F) hmade hc (fun x hx _ => hf x hx) hs (fun k hk _ => hB.block k hk) hB.size ⟨hB.os, hB.tape, hB.output⟩ ⟨n, by omega, hm.at (hB.block _ hmbl)⟩ hF (fun _ _ => rfl) hv0 hk (by omega) (hw.mineLe s) hbox hb
  obtain ⟨ns, hns⟩ : ∃ ns, szO (D.now s) = ns := ⟨_, rfl⟩
  rw [hns] at CK HC hk hnow hfit
  obtain ⟨dl, hdl2⟩ : ∃ dl, d.size = dl := ⟨_, rfl⟩
  rw [hdl2] at HX HC hfit hdl ⊢
  obtain ⟨u, hu1⟩ : ∃ u, D.used = u := ⟨_, rfl⟩
  obtain ⟨r, hr1⟩ : ∃ r, D.room = r := ⟨_, rfl⟩
  rw [hu1] at HX HC hfit hu2
  rw [hr1] at HX hfit hrm
  obtain ⟨more, hmore⟩ : ∃ more, k + dl - ns = more := ⟨_, rfl⟩
  rw [hmore] at HC
  have HBN : Hid (∀ n m W, Below n w W → Below n w (W.drewN m)) := Lib.hid fun n m W hB => below_drewN hB
  clear hI hbl hmbl hdb hm hn hv hfile hF hf hc h hw hs hright hfail hr h0 hin hus hmade hdl2 hu1 hr1 hns
  by_cases hpos : 0 < more
  · have hroom : u + more ≤ r := by have := hfit (by omega); omega
    have e1 : ((k : Int) + (dl : Int) - (ns : Int)) = (more : Int) := by omega
    have g0 : decide (0 < more) = true := by simp; omega
    have g1 : IntKind.i64.wrap ((u : Int) + (more : Int)) = ((u + more : Nat) : Int) := by rw [IntKind.wrap_i64]; omega
    have g2 : decide (r < u + more) = false := by simp; omega
    clear hfit hmore
    go_enter Try.func21, Try.ntmps21
    go_wp2_with fail
    refine CR.out.mono ?_
    rintro e W ⟨rfl, hB⟩
    go_wp2_with fail
    obtain ⟨na, sa, ca, nc, sl, sc, cl, cc, nt, st, sh, cK⟩ := CK.out W hB
    have CKK := Lib.hid cK
    clear cK
    refine CKK.out.mono ?_
    rintro e W2 ⟨rfl, hB2⟩
    have q0 := field_now nt st sh na sa ca ns nc sl sc cl cc
    have q1 := field_bytes nt na ns nc
    have hBB := hB.trans (hB2.mono hB.size)
    have HBB := Lib.hid hBB
    obtain ⟨⟨k0, k1, k2⟩, _, _⟩ := HX.out W2 hBB
    clear hB hB2 hBB
    go_wp2_with fail
    go_quiet (fail)
    have HB5 := Lib.hid (below_drewN (m := nq) HBB.out)
    clear HBB
    generalize W2.drewN nq = W5 at HB5 ⊢
    obtain ⟨⟨p0, _, _⟩, _, _⟩ := HX.out W5 HB5.out
    go_wp2_with (first | (refine wpList_lookup_ran (o := ⟨some 57, _, _, _, _, _⟩) rfl _ _ _ _ rfl rfl rfl (HX.out _ HB5.out).2.1 ?_) | (refine wpList_exec_ran (o := ⟨some 71, _, _, _, _, _⟩) rfl (run_conv (HX.out _ HB5.out).2.2) ?_))
    have hB6 := HB5.out.alloc HB5.out.size (.cells #[.int .i64 0, .int .i64 0, .int .i64 (k : Nat), .string d] 86)
    refine (HC.out _ W5.heap.size hB6 HB5.out.size (heap_alloc_new W5 _)).mono ?_
    rintro e W6 ⟨rfl, ⟨r0, r1, r2, r3⟩, HN⟩
    go_wp2_with fail
    refine HN.out.mono ?_
    rintro e W7 ⟨rfl, ⟨s0, s1⟩, HF⟩
    go_wp2_with fail
    go_ret
    exact ⟨rfl, HF.out⟩
  · obtain rfl : more = 0 := by omega
    have hle : (k : Int) + (dl : Int) ≤ (ns : Int) := by omega
    have g0 : decide ((0 : Int) < max ((k : Int) + (dl : Int) - (ns : Int)) 0) = false := by simp; omega
    have g1 : max ((k : Int) + (dl : Int) - (ns : Int)) 0 = 0 := by omega
    clear hfit hmore hpos
    go_enter Try.func21, Try.ntmps21
    go_wp2_with fail
    refine CR.out.mono ?_
    rintro e W ⟨rfl, hB⟩
    go_wp2_with fail
    obtain ⟨na, sa, ca, nc, sl, sc, cl, cc, nt, st, sh, cK⟩ := CK.out W hB
    have CKK := Lib.hid cK
    clear cK
    refine CKK.out.mono ?_
    rintro e W2 ⟨rfl, hB2⟩
    have q0 := field_now nt st sh na sa ca ns nc sl sc cl cc
    have q1 := field_bytes nt na ns nc
    have hBB := hB.trans (hB2.mono hB.size)
    have HBB := Lib.hid hBB
    obtain ⟨⟨k0, k1, k2⟩, _, _⟩ := HX.out W2 hBB
    clear hB hB2 hBB
    go_wp2_with fail
    go_quiet (fail)
    have HB5 := Lib.hid (below_drewN (m := nq) HBB.out)
    clear HBB
    generalize W2.drewN nq = W5 at HB5 ⊢
    obtain ⟨⟨p0, _, _⟩, _, _⟩ := HX.out W5 HB5.out
    go_wp2_with (first | (refine wpList_lookup_ran (o := ⟨some 57, _, _, _, _, _⟩) rfl _ _ _ _ rfl rfl rfl (HX.out _ HB5.out).2.1 ?_) | (refine wpList_exec_ran (o := ⟨some 71, _, _, _, _, _⟩) rfl (run_conv (HX.out _ HB5.out).2.2) ?_))
    have hB6 := HB5.out.alloc HB5.out.size (.cells #[.int .i64 0, .int .i64 0, .int .i64 (k : Nat), .string d] 86)
    refine (HC.out _ W5.heap.size hB6 HB5.out.size (heap_alloc_new W5 _)).mono ?_
    rintro e W6 ⟨rfl, ⟨r0, r1, r2, r3⟩, HN⟩
    go_wp2_with fail
    refine HN.out.mono ?_
    rintro e W7 ⟨rfl, ⟨s0, s1⟩, HF⟩
    go_wp2_with fail
    go_ret
    exact ⟨rfl, HF.out⟩


end Go.Proofs.Ytlmohcmnoddncaa.Disk
