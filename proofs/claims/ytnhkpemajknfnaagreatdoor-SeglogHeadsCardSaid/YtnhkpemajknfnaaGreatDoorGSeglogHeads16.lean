/-
  Put together out of texts of one chain: what they hold stands ahead of each.
-/
import Derived.Test.YtnhkpemajknfnaaGreatDoorGSeglogHeads13
import Derived.Test.YtnhkpemajknfnaaGreatDoorGSeglogHeads21
import Derived.Test.YtnhkpemajknfnaaGreatDoorGSeglogHeads12
/-
  Contract of the log's Append, where nothing refuses.
-/
namespace Go.Proofs.YtnhkpemajknfnaaGreatDoor.Seglog
open Go Go.RowKit Go.Lib Go.Proofs.YtnhkpemajknfnaaGreatDoor.Law Go.Proofs.YtnhkpemajknfnaaGreatDoor.Disk Go.Proofs.YtnhkpemajknfnaaGreatDoor.Frame Go.Proofs.YtnhkpemajknfnaaGreatDoor.Crc

/-- What Append leaves. -/
def Appended (Fr : Nat → Prop) (w W : World) (base lb db : Nat) (D' : DS) (p : ByteArray) (room : Nat) (v vb : Value) (at_ ah b n : Nat) (l : List SV) (es' : List En) (e : Ending) (Z : World) : Prop :=
  e = .returned (.tuple #[.int .i64 (at_ : Nat), .int .i64 0]) ∧ ∃ Fr2 v' A' c', (∀ k, Fr k → Fr2 k) ∧ (∀ k, Fr2 k → Fr k ∨ W.heap.size ≤ k) ∧ Lg Fr2 w base lb db D' p room false v' (l.take ah ++ [(⟨b, es'⟩, .slice A' (n + 1) c')]) Z ∧
    DistL (l.take ah ++ [(⟨b, es'⟩, .slice A' (n + 1) c')]) ∧ (∀ k, Fr k → k ≠ lb → v.ownBlock ≠ some k → vb.ownBlock ≠ some k → Z.heap[k]? = W.heap[k]?) ∧ W.heap.size ≤ Z.heap.size

set_option maxRecDepth 100000 in
set_option maxHeartbeats 4000000 in
theorem append_calls {Fr : Nat → Prop} {w W : World} {base db lb room : Nat} {D DG : DS} {p : ByteArray} {v : Value} {l : List SV} (h : Lg Fr w base lb db D p room false v l W) (hp : p.size ≤ 13) (htab : Tab10 w) (hcrc : ∀ W', Below w.heap.size w W' → Tab W')
    (tv : Value) (bs : List Nat) (hbytes : Stay Fr w W tv bs) (hlen : bs.length ≤ 65536) (hl : l.length ≤ 1000000000) (hnb : ∀ q ∈ l, q.1.next ≤ 9223372036854775807) (hat : nextL (l.map (·.1)) ≤ 9223372036854775806) (hd : DistL l)
    (ah b n c : Nat) (A : Option Addr) (es : List En) (hah : ah ≤ l.length) (hE : EntsAt W base (.slice A n c) es) (hen : es.length = n) (hF : ∀ g, (Value.slice A n c).ownBlock = some g → Fr g) (hne : ∀ q ∈ l.take ah, ∀ g, q.2.ownBlock = some g → (Value.slice A n c).ownBlock ≠ some g)
    (hb : b ≤ 4611686018427387904) (hn : n ≤ 1000000000) (hsz : (⟨b, es⟩ : Sg).size ≤ 2147483648) (hmade : DG.made ≤ 4294967296) (hw : DG.writeN (fileN p b) (((⟨b, es⟩ : Sg).size : Nat) : Int) (frameN bs).length = 0)
    (hG : ∀ (Fr' : Nat → Prop) (W' : World), Lg Fr' w base lb db D p room false v l W' → Calls Tryz.prog 43 #[.pointer (some ⟨lb, 0, none⟩)] W' fun e W'' => e = .returned (.tuple #[.int .i64 (ah : Nat), segV b A n c, .int .i64 0]) ∧ Dx Fr' w db DG W'' ∧ SameOn Fr' W' W'') :
    Calls Tryz.prog 19 #[.pointer (some ⟨lb, 0, none⟩), tv] W (Appended Fr w W base lb db (DG.write (fileN p b) (((⟨b, es⟩ : Sg).size : Nat) : Int) (str (frameN bs))) p room v (.slice A n c) (nextL (l.map (·.1))) ah b n l (es ++ [⟨bs, (⟨b, es⟩ : Sg).size + (frameN bs).length⟩])) := by
  obtain ⟨at_, hat'⟩ : ∃ a, nextL (l.map (·.1)) = a := ⟨_, rfl⟩
  obtain ⟨S, hS⟩ : ∃ S, (⟨b, es⟩ : Sg).size = S := ⟨_, rfl⟩
  obtain ⟨N, hN⟩ : ∃ N, fileN p b = N := ⟨_, rfl⟩
  have hput : putN bs = (frameN bs, 0) := by unfold putN; rw [if_pos hlen]
  obtain ⟨F, hFr⟩ : ∃ F, frameN bs = F := ⟨_, rfl⟩
  have C0 := Lib.hid (refuses_calls lb db room p v false W h.2.block)
  have hbW : Bytes W.heap.size W tv bs := hbytes.here
  have C1 := Lib.hid (put_calls tv bs W (hcrc W h.1.low) hbW)
  rw [hput, hFr] at C1
  have C2 : Hid (∀ W2, Below W.heap.size W W2 → Calls Tryz.prog 16 #[.pointer (some ⟨lb, 0, none⟩)] W2 fun e W' => e = .returned (.int .i64 (at_ : Nat)) ∧ Below W2.heap.size W2 W') := Lib.hid fun W2 h2 => by
    have h1 := nxt_calls (h.2.add h2) (by omega) hnb
    rwa [hat'] at h1
  have C3 : Hid (∀ W3, Below W.heap.size W W3 → Calls Tryz.prog 43 #[.pointer (some ⟨lb, 0, none⟩)] W3 fun e W'' => e = .returned (.tuple #[.int .i64 (ah : Nat), segV b A n c, .int .i64 0]) ∧ Dx (Plus Fr W W3) w db DG W'' ∧ SameOn (Plus Fr W W3) W3 W'') := Lib.hid fun W3 h3 => hG _ W3 (h.add h3)
  have hat1 : ¬ (at_ : Int) = 9223372036854775807 := by omega
  rw [hat', hS, hN, hFr]
  rw [hS, hN, hFr] at hw
  rw [hS] at hsz
  have H := Lib.hid h
  have HW := Lib.hid hw
  have HE := Lib.hid hE
  have HEN := Lib.hid hen
  clear h hw hE hen hput hat hat' hcrc hG hbW
  go_enter Tryz.func19, Tryz.ntmps19
  go_wp2_with fail
  refine C0.out.mono ?_
  clear C0
  rintro e W1 ⟨rfl, rfl⟩
  go_wp2_with fail
  refine C1.out.mono ?_
  clear C1
  rintro e W2 ⟨fv, rfl, hO, hB2⟩
  have HO := Lib.hid hO
  have HB2 := Lib.hid hB2
  clear hO hB2
  go_wp2_with fail
  refine (C2.out W2 HB2.out).mono ?_
  clear C2
  rintro e W3 ⟨rfl, hB3⟩
  have HB3 := Lib.hid (HB2.out.trans (hB3.mono HB2.out.size))
  have HO3 := Lib.hid (HO.out.below hB3)
  clear hB3 HO HB2
  go_wp2_with fail
  refine (C3.out W3 HB3.out).mono ?_
  clear C3
  rintro e W4 ⟨rfl, hD4, hS4⟩
  have HM : Hid (Mid Fr _ w W1 base lb db DG p room v l b A n c es fv F W4.heap.size (W4.alloc (.cells #[.int .i64 (b : Nat), .slice A n c] 84))) := Lib.hid (Mid.start H.out HB3.out HO3.out hD4 hS4 HE.out hF)
  clear hD4 hS4 HB3 HO3
  go_wp2_with fail
  have hM := HM.out
  clear HM
  obtain ⟨q, hq⟩ : ∃ q, W4.heap.size = q := ⟨_, rfl⟩
  rw [hq] at hM ⊢
  generalize Plus (Plus Fr W1 W3) W4 (W4.alloc (.cells #[.int .i64 (b : Nat), .slice A n c] 84)) = F5 at hM
  generalize W4.alloc (.cells #[.int .i64 (b : Nat), .slice A n c] 84) = w0 at hM ⊢
  clear hq
  obtain ⟨fA, fcap, hfv⟩ := hM.own.bytes.form
  subst hfv
  have hdec := dec_length b 18 (by omega)
  have hszf := file_size p b
  have CF : Hid (∀ W0, Below w0.heap.size w0 W0 → Calls Tryz.prog 44 #[.pointer (some ⟨lb, 0, none⟩), segV b A n c] W0 fun e W' => e = .returned (.string N) ∧ Below W0.heap.size W0 W') := Lib.hid fun W0 h0 => by
    have h := file_calls lb db room b p v (.slice A n c) false W0 (hM.lg.2.block.below h0) (by omega) (by omega) (Tab10.below (Tab10.below htab hM.lg.1.low) h0)
    rwa [hN] at h
  have CZ : Hid (∀ W0, Below w0.heap.size w0 W0 → Calls Tryz.prog 45 #[segV b A n c] W0 fun e W' => e = .returned (.int .i64 (S : Nat)) ∧ Below W0.heap.size W0 W') := Lib.hid fun W0 h0 => by
    have h1 := size_calls b A n c base es W0 HEN.out (hM.ents.below h0) (by omega)
    rwa [hS] at h1
  have CW : Hid (∀ W6, Below w0.heap.size w0 W6 → Calls Tryz.prog 9 #[.pointer (some ⟨db, 0, none⟩), .string N, .int .i64 (S : Nat), .slice fA F.length fcap] W6 fun e W7 => e = .returned (.int .i64 0) ∧ Hid (Mid Fr F5 w W1 base lb db (DG.write N (S : Nat) (str F)) p room v l b A n c es (.slice fA F.length fcap) F q W7) ∧ W7.heap[lb]? = W6.heap[lb]? ∧ W7.heap[q]? = W6.heap[q]?) := Lib.hid fun W6 h6 => by
    have hM6 := hM.below h6
    refine (Dx.write hM6.lg.1 hmade N (by rw [← hN, hszf]; omega) (S : Nat) (by omega) (.slice fA F.length fcap) F (by rw [← hFr, frameN_length]; omega) hM6.own.bytes).mono ?_
    rintro e W7 ⟨rfl, h7, h8⟩
    rw [HW.out]
    exact ⟨rfl, Lib.hid (hM6.turn h7 h8), h8.1 lb hM.lg.2.rl, h8.1 q hM.boxF⟩
  have HLB : Hid (∀ W' : World, W'.heap[lb]? = w0.heap[lb]? ∧ W'.heap[q]? = w0.heap[q]? → W'.cell? ⟨lb, 0, none⟩ = some (.pointer (some ⟨db, 0, none⟩)) ∧ W'.cell? ⟨q, 0, none⟩ = some (.int .i64 (b : Nat)) ∧ W'.cell? ⟨q, 1, none⟩ = some (.slice A n c)) := Lib.hid fun W' h => by
    have h1 : LB W' lb db p room v false := h.1.trans hM.lg.2.block
    exact ⟨h1.cells.1.1, (two2 (h.2.trans hM.box)).1, (two2 (h.2.trans hM.box)).2.1⟩
  have hqlt := hM.boxLt
  have hlblt := hM.lg.2.block.lt
  have HM := Lib.hid hM
  have HSZ := Lib.hid hsz
  have HHN := Lib.hid hn
  have HSS := Lib.hid hS
  clear hM hdec hszf hsz hn hmade hS htab
  refine wp_region_noPanic ?_
  refine wp_region_held_tail (C := fun w' => w'.heap[lb]? = w0.heap[lb]? ∧ w'.heap[q]? = w0.heap[q]?) [0, 1, 2, 3, 4, 5, 7, 9] [6, 8, 10, 11] 11 (by kernel_rfl) (by kernel_rfl) (fun _ _ _ _ _ h => h) ?_ ?_
  · exact ⟨rfl, rfl⟩
  iterate 8
    refine heldI_step (v := ?_) rfl (by rfl) (fun w' hw' => ?_) ?_
    rotate_left
    · obtain ⟨k0, k1, k2⟩ := HLB.out w' hw'
      go_simp
      all_goals with_reducible rfl
    simp only [Act.put, List.getElem_toArray, List.getElem_cons_succ, List.getElem_cons_zero, List.setIfInBounds_toArray, List.set_cons_succ, List.set_cons_zero]
  refine heldI_nil ?_
  refine seqI_step rfl ?_
  try simp only [List.getElem_toArray, List.getElem_cons_succ, List.getElem_cons_zero]
  go_wp2_with (go_at_call 44; ((with_reducible refine (CF.out _ (Below.refl _ _).drew).mono ?_); rintro e W5 ⟨rfl, hB5⟩))
  have HB5 : Hid (Below w0.heap.size w0 W5) := Lib.hid ((Below.refl w0.heap.size w0).drew.trans hB5)
  refine ⟨⟨HB5.out.block lb hlblt, HB5.out.block q hqlt⟩, ?_⟩
  clear hB5 CF
  refine seqI_step rfl ?_
  try simp only [List.getElem_toArray, List.getElem_cons_succ, List.getElem_cons_zero]
  go_wp2_with (go_at_call 45; ((with_reducible refine (CZ.out _ HB5.out).mono ?_); rintro e W6 ⟨rfl, hB6⟩))
  have HB6 : Hid (Below w0.heap.size w0 W6) := Lib.hid (HB5.out.trans (hB6.mono HB5.out.size))
  refine ⟨⟨HB6.out.block lb hlblt, HB6.out.block q hqlt⟩, ?_⟩
  clear hB6 CZ HB5
  refine seqI_step rfl ?_
  try simp only [List.getElem_toArray, List.getElem_cons_succ, List.getElem_cons_zero]
  go_wp2_with (go_at_call 9; ((with_reducible refine (CW.out _ HB6.out).mono ?_); rintro e W7 ⟨rfl, HM7, hl7, hq7⟩))
  refine ⟨⟨hl7.trans (HB6.out.block lb hlblt), hq7.trans (HB6.out.block q hqlt)⟩, ?_⟩
  clear hl7 hq7 CW HB6 HLB hqlt hlblt HM
  refine seqI_last rfl ?_
  try simp only [List.getElem_toArray, List.getElem_cons_succ, List.getElem_cons_zero]
  go_wp2_with fail
  refine NoPanic.normal ?_
  go_wp2_with fail
  have hM := HM7.out
  clear HM7
  have hM7 := hM.below (w1 := W7.drew) (Below.refl _ _).drew
  obtain ⟨vA, cap, hv⟩ := rowForm hM7.lg.2.segs.1
  obtain ⟨NL, hNL⟩ : ∃ x, l.length = x := ⟨_, rfl⟩
  rw [hNL] at hv hah hl
  subst hv
  have hcap : NL ≤ cap := by
    obtain ⟨_, c', h1, h2⟩ := hM7.lg.2.segs.1.form
    simp only [Value.slice.injEq] at h1
    obtain ⟨_, h3, h4⟩ := h1
    omega
  have hahI : (ah : Int) ≤ (cap : Int) := by omega
  have hah0 : 0 ≤ (ah : Int) := by omega
  have hww : ∀ g, (Value.slice A n c).ownBlock = some g → w.heap.size ≤ g := fun g hg => (Dx.in hM7.lg.1 (hM7.entF g hg)).1
  have CV : Hid (Calls Tryz.prog 46 #[segV b A n c, tv, .int .i64 (F.length : Nat)] W7.drew fun e W8 => ∃ A' c', e = .returned (segV b A' (n + 1) c') ∧ Hid (EntsAt W8 base (.slice A' (n + 1) c') (es ++ [⟨bs, S + F.length⟩]) ∧ W7.drew.grownBy W8 (Value.slice A n c).ownBlock ∧ ((Value.slice A' (n + 1) c').ownBlock = (Value.slice A n c).ownBlock ∨ ∃ g, (Value.slice A' (n + 1) c').ownBlock = some g ∧ W7.drew.heap.size ≤ g))) := Lib.hid (by
    have h1 := with_calls b base F.length n c W1.heap.size A es tv bs W7.drew HEN.out hM7.ents (by have h2 := hM7.lg.2.block.lt; have h3 := hM7.lg.2.le; omega) HHN.out (by rw [HSS.out, ← hFr, frameN_length]; have := HSZ.out; omega) (fun W' hW' => by
      refine hbytes W' fun k hk => ?_
      have hlow := hM7.lg.1.low
      rcases hk with hk | ⟨hk, hal⟩
      · have h1 := (H.out.1.low.block k hk)
        exact ((hW'.block k (Nat.lt_of_lt_of_le hk hlow.size) (fun e => by have := hww k e.symm; omega)).trans (hlow.block k hk)).trans h1.symm
      · have h1 := hM7.kept k hk
        obtain ⟨cur, e, fz, h2, _, _, h3⟩ := hal
        refine (hW'.block k (Dx.in hM7.lg.1 (hM7.more k hk)).2 (fun e' => ?_)).trans h1
        obtain ⟨_, _, cur', h4⟩ := hM7.ents.own k e'.symm
        rw [h1, h2] at h4
        simp only [Option.some.injEq, Obj.cells.injEq] at h4
        exact h3 h4.2.1)
    rw [HSS.out] at h1
    refine h1.mono ?_
    rintro e W8 ⟨A', c', rfl, h2, h3, h4⟩
    exact ⟨A', c', rfl, Lib.hid ⟨h2, h3, h4⟩⟩)
  have CA : Hid (∀ (W8 : World) (A' : Option Addr) (c' : Nat), EntsAt W8 base (.slice A' (n + 1) c') (es ++ [⟨bs, S + F.length⟩]) ∧ W7.drew.grownBy W8 (Value.slice A n c).ownBlock ∧ ((Value.slice A' (n + 1) c').ownBlock = (Value.slice A n c).ownBlock ∨ ∃ g, (Value.slice A' (n + 1) c').ownBlock = some g ∧ W7.drew.heap.size ≤ g) →
      ∃ A2 c2 W10, (Builtin.append_ #[79, 79] 79 #[.slice vA ah cap, .slice (some ⟨W8.heap.size, 0, none⟩) 1 1]).run Tryz.prog (W8.alloc (.cells #[.int .i64 (b : Nat), .slice A' (n + 1) c'] 84)) = .ok (.slice A2 (ah + 1) c2) W10 ∧
        (W10.heap[lb]? = W7.heap[lb]? ∧ W10.heap[q]? = W7.heap[q]?) ∧ Hid (RowPut F5 w W7.drew base lb db (DG.write N (S : Nat) (str F)) p room (.slice vA NL cap) (.slice A n c) (l.take ah ++ [(⟨b, es ++ [⟨bs, S + F.length⟩]⟩, .slice A' (n + 1) c')]) (.slice A2 (ah + 1) c2) (W10.setCell ⟨lb, 3, none⟩ (.slice A2 (ah + 1) c2)))) := Lib.hid fun W8 A' c' h8 => by
    obtain ⟨A2, c2, W10, h1, ⟨h2, h3⟩, h4⟩ := append_row (b := b) hM7.lg hNL hl hd ah hah hM7.ents hM7.entF hne h8.2.1 h8.1 h8.2.2 79
    exact ⟨A2, c2, W10, h1, ⟨h2, h3 q hM7.boxLt hM7.notRow hM7.notEnts.1⟩, Lib.hid h4⟩
  have HNE : Hid (∀ W8, W7.drew.grownBy W8 (Value.slice A n c).ownBlock → W8.heap[lb]? = W7.heap[lb]? ∧ W8.heap[q]? = W7.heap[q]?) := Lib.hid fun W8 h8 =>
    ⟨h8.block lb hM7.lg.2.block.lt (fun e => hM7.notEnts.2 e.symm), h8.block q hM7.boxLt (fun e => hM7.notEnts.1 e.symm)⟩
  have HLB : Hid (∀ W' : World, W'.heap[lb]? = W7.heap[lb]? ∧ W'.heap[q]? = W7.heap[q]? → (W'.cell? ⟨lb, 3, none⟩ = some (.slice vA NL cap) ∧ W'.frozen? ⟨lb, 3, none⟩ = false) ∧ W'.cell? ⟨q, 0, none⟩ = some (.int .i64 (b : Nat)) ∧ W'.cell? ⟨q, 1, none⟩ = some (.slice A n c)) := Lib.hid fun W' h => by
    have h1 : LB W' lb db p room (.slice vA NL cap) false := h.1.trans hM.lg.2.block
    exact ⟨⟨h1.cells.1.2.2.2.1, h1.cells.2 3⟩, (two2 (h.2.trans hM.box)).1, (two2 (h.2.trans hM.box)).2.1⟩
  have hlblt : lb < W7.heap.size := hM.lg.2.block.lt
  have HM7 := Lib.hid hM7
  clear hM hM7 hcap hah hl hd hne hF hww hnb hb hlen hbytes hN hNL
  refine wp_region_noPanic ?_
  refine wp_region_held_tail (C := fun w' => w'.heap[lb]? = W7.heap[lb]? ∧ w'.heap[q]? = W7.heap[q]?) [0, 1, 2, 3, 4, 5, 6, 7, 8, 9, 10] [11, 12, 13, 14, 15, 16] 16 (by kernel_rfl) (by kernel_rfl) (fun _ _ _ _ _ h => h) ?_ ?_
  · exact ⟨rfl, rfl⟩
  iterate 11
    refine heldI_step (v := ?_) rfl (by rfl) (fun w' hw' => ?_) ?_
    rotate_left
    · obtain ⟨⟨k0, _⟩, k1, k2⟩ := HLB.out w' hw'
      go_simp
      all_goals with_reducible rfl
    simp only [Act.put, List.getElem_toArray, List.getElem_cons_succ, List.getElem_cons_zero, List.setIfInBounds_toArray, List.set_cons_succ, List.set_cons_zero]
  refine heldI_nil ?_
  refine seqI_step rfl ?_
  try simp only [List.getElem_toArray, List.getElem_cons_succ, List.getElem_cons_zero]
  go_wp2_with (go_at_call 46; ((with_reducible refine CV.out.mono ?_); rintro e W8 ⟨A', c', rfl, HO8⟩))
  refine ⟨HNE.out W8 HO8.out.2.1, ?_⟩
  have HC8 : Hid (W8.heap[lb]? = W7.heap[lb]? ∧ W8.heap[q]? = W7.heap[q]?) := Lib.hid (HNE.out W8 HO8.out.2.1)
  have hs8 : W7.heap.size ≤ W8.heap.size := HO8.out.2.1.size
  obtain ⟨A2, c2, W10, hrun, hC10, HR⟩ := CA.out W8 A' c' HO8.out
  have HRUN := Lib.hid hrun
  have HC10 := Lib.hid hC10
  have HQ7 : Hid (q < W8.heap.size ∧ lb < W8.heap.size) := Lib.hid ⟨by have h1 : q < W7.heap.size := HM7.out.boxLt; omega, by omega⟩
  clear hs8 hlblt
  clear hrun hC10 CA CV HO8 HNE
  refine seqI_step rfl ?_
  try simp only [List.getElem_toArray, List.getElem_cons_succ, List.getElem_cons_zero]
  go_wp2_with fail
  refine ⟨⟨(Below.heap_alloc W8 _ lb HQ7.out.2).trans HC8.out.1, (Below.heap_alloc W8 _ q HQ7.out.1).trans HC8.out.2⟩, ?_⟩
  refine seqI_step rfl ?_
  try simp only [List.getElem_toArray, List.getElem_cons_succ, List.getElem_cons_zero]
  go_wp2_with (at_builtin; refine wpList_append_ran rfl _ _ _ rfl rfl rfl HRUN.out ?_)
  refine ⟨HC10.out, ?_⟩
  iterate 2
    refine seqI_step rfl ?_
    try simp only [List.getElem_toArray, List.getElem_cons_succ, List.getElem_cons_zero]
    go_wp2_with fail
    refine ⟨HC10.out, ?_⟩
  obtain ⟨⟨u0, u1⟩, _, _⟩ := HLB.out W10 HC10.out
  refine seqI_last rfl ?_
  try simp only [List.getElem_toArray, List.getElem_cons_succ, List.getElem_cons_zero]
  go_wp2_with fail
  refine NoPanic.normal ?_
  go_wp2_with fail
  refine bodyPost_ret (v := .tuple #[.int .i64 (at_ : Nat), .int .i64 0]) (by simp [results, Tryz.results19, go_sem]) rfl ?_
  have hR := HR.out
  have hM := HM7.out
  refine ⟨rfl, _, _, A', c', fun k hk => .inl (hM.more k hk), fun k hk => ?_, hR.lg, hR.dist, fun k hk h1 h2 h3 => ?_, Nat.le_trans hM.size hR.size⟩
  · rcases hk with hk | hk
    · exact hM.new k hk
    · exact .inr (Nat.le_trans hM.size hk.1)
  · exact (hR.kept k (Dx.in hM.lg.1 (hM.more k hk)).2 h1 h2 h3).trans (hM.kept k hk)

end Go.Proofs.YtnhkpemajknfnaaGreatDoor.Seglog

/-
  Plain facts: a log whose files all are there: making them durable, and taking segments ahead of a place away, come to their ends.
-/
namespace Go.Proofs.YtnhkpemajknfnaaGreatDoor.Seglog
open Go Go.RowKit Go.Lib Go.Proofs.YtnhkpemajknfnaaGreatDoor.Law Go.Proofs.YtnhkpemajknfnaaGreatDoor.Disk

/-- A file that is there, on a disk that doesn't fail. -/
structure There (D : DS) (s : ByteArray) : Prop where
  now : D.now s ≠ none
  nm : s ∈ D.names
  right : rightB s = true
theorem refN_ok {s : ByteArray} (h : rightB s = true) : refN false s 0 = 0 := by unfold refN; rw [h]; simp
theorem syncN_ok {D : DS} {s : ByteArray} (hf : D.fails = false) (hn : s ∈ D.names) (hr : rightB s = true) : D.syncN s = 0 := by
  unfold DS.syncN
  rw [hf, refN_ok hr, if_neg (by simp), if_pos hn]
theorem sync_there {D : DS} {s : ByteArray} (hf : D.fails = false) (h : There D s) : (D.sync s).fails = false ∧ (D.sync s).now = D.now ∧ (D.sync s).names = D.names ∧ (D.sync s).made = D.made := by
  unfold DS.sync
  rw [if_pos (syncN_ok hf h.nm h.right)]
  unfold DS.syncD
  refine ⟨hf, rfl, ?_, rfl⟩
  show (if D.now s = none then _ else _) = _
  rw [if_neg h.now]
/-- Files that are there are made durable. -/
theorem all_there : ∀ (l : List ByteArray) (D : DS), D.fails = false → (∀ s ∈ l, There D s) → allN D l = 0 ∧ (allD D l).fails = false ∧ (allD D l).now = D.now ∧ (allD D l).names = D.names
  | [], D, hf, _ => ⟨rfl, hf, rfl, rfl⟩
  | s :: r, D, hf, h => by
    have hs := h s (by simp)
    obtain ⟨h1, h2, h3, _⟩ := sync_there hf hs
    have h0 := syncN_ok hf hs.nm hs.right
    obtain ⟨i1, i2, i3, i4⟩ := all_there r (D.sync s) h1 (fun t ht => by
      have := h t (by simp [ht])
      exact ⟨by rw [h2]; exact this.now, by rw [h3]; exact this.nm, this.right⟩)
    rw [allN, allD, if_pos h0, if_pos h0]
    exact ⟨i1, i2, i3.trans h2, i4.trans h3⟩
/-- A file that is there goes. -/
theorem gone_there {D : DS} {s : ByteArray} (hf : D.fails = false) (h : There D s) : DS.goneN D s = 0 ∧ (DS.gone D s).fails = false ∧ (∀ t, t ≠ s → (DS.gone D s).now t = D.now t) ∧ (∀ t, t ≠ s → t ∈ D.names → t ∈ (DS.gone D s).names) := by
  have h0 : D.removeN s = 0 := by
    unfold DS.removeN
    rw [hf, refN_ok h.right, if_neg (by simp), if_neg h.now]
  have hrm : D.remove s = D.removeD s := by unfold DS.remove; rw [if_pos h0]
  have hf1 : (D.removeD s).fails = false := hf
  have hs1 : (D.removeD s).syncN s = 0 := syncN_ok hf1 h.nm h.right
  have hsy : (D.removeD s).sync s = (D.removeD s).syncD s := by unfold DS.sync; rw [if_pos hs1]
  unfold DS.goneN DS.gone
  rw [if_pos h0, if_pos h0, hrm, hsy]
  refine ⟨hs1, hf, fun t ht => ?_, fun t ht hm => ?_⟩
  · show upd D.now s none t = D.now t
    exact upd_other D.now none ht
  · show t ∈ (if (D.removeD s).now s = none then (D.removeD s).names.erase s else (D.removeD s).names)
    split
    · exact (List.mem_erase_of_ne ht).2 hm
    · exact hm
/-- Segments ahead of a place go, if all their files are there. -/
theorem head_there (p : ByteArray) (a : Nat) : ∀ (l : List SV) (D : DS), D.fails = false → goesOn (l.map (·.1)) → (∀ q ∈ l, There D (fileN p q.1.base)) →
    ∃ G, (headGo p a D l).2 = (0, G) ∧ (G < l.length ∨ l = []) ∧ (headGo p a D l).1.fails = false ∧ (∀ q ∈ l.drop G, There (headGo p a D l).1 (fileN p q.1.base)) ∧ (headGo p a D l).1.made ≤ D.made + G ∧ (∀ q ∈ l.take G, q.1.next ≤ a)
  | [], D, hf, _, _ => ⟨0, rfl, .inr rfl, hf, by simp, by simp [headGo], by simp⟩
  | [s], D, hf, _, h => ⟨0, rfl, .inl (by simp), hf, by simpa [headGo] using h, by simp [headGo], by simp⟩
  | s :: t :: r, D, hf, hg, h => by
    by_cases ha : s.1.next ≤ a
    · obtain ⟨g0, g1, g2, g3⟩ := gone_there hf (h s (by simp))
      have hne : ∀ q ∈ t :: r, fileN p q.1.base ≠ fileN p s.1.base := fun q hq e => by
        have h1 := goes_ahead (t :: r) s hg q hq
        have h2 := file_inj e
        have h3 : s.1.es ≠ [] := hg.2.1
        have h4 : 0 < s.1.es.length := List.length_pos_iff.2 h3
        unfold Sg.next at h1
        omega
      obtain ⟨G, i1, i2, i3, i4, i5, i6⟩ := head_there p a (t :: r) (DS.gone D (fileN p s.1.base)) g1 (goesOn_tail hg) (fun q hq => by
        have h1 := h q (by simp at hq ⊢; exact .inr hq)
        exact ⟨by rw [g2 _ (hne q hq)]; exact h1.now, g3 _ (hne q hq) h1.nm, h1.right⟩)
      have hm := gone_made D (fileN p s.1.base)
      have i1a : (headGo p a (DS.gone D (fileN p s.1.base)) (t :: r)).2.1 = 0 := by rw [i1]
      have i1b : (headGo p a (DS.gone D (fileN p s.1.base)) (t :: r)).2.2 = G := by rw [i1]
      refine ⟨G + 1, ?_, .inl ?_, ?_, ?_, ?_, ?_⟩
      · rw [headGo, if_pos ha, if_pos g0]
        show (_, _) = _
        rw [i1a, i1b]
      · rcases i2 with i2 | i2
        · simpa using i2
        · cases i2
      · rw [headGo, if_pos ha, if_pos g0]; exact i3
      · rw [headGo, if_pos ha, if_pos g0]; simpa using i4
      · rw [headGo, if_pos ha, if_pos g0]
        show (headGo p a (DS.gone D (fileN p s.1.base)) (t :: r)).1.made ≤ _
        omega
      · intro q hq
        rw [List.take_succ_cons] at hq
        rcases List.mem_cons.1 hq with rfl | hq
        · exact ha
        · exact i6 q hq
    · refine ⟨0, by rw [headGo, if_neg ha], .inl (by simp), by rw [headGo, if_neg ha]; exact hf, by rw [headGo, if_neg ha]; exact h, by rw [headGo, if_neg ha]; exact Nat.le_refl _, by simp⟩

end Go.Proofs.YtnhkpemajknfnaaGreatDoor.Seglog

/-
  Plain facts: a log all of whose files are on the disk, and what putting an entry behind makes of it.
-/
namespace Go.Proofs.YtnhkpemajknfnaaGreatDoor.Seglog
open Go Go.RowKit Go.Lib Go.Proofs.YtnhkpemajknfnaaGreatDoor.Law Go.Proofs.YtnhkpemajknfnaaGreatDoor.Disk Go.Proofs.YtnhkpemajknfnaaGreatDoor.Frame

theorem nextL_snoc (l : List Sg) (s : Sg) : nextL (l ++ [s]) = s.next := by simp [nextL]
theorem firstL_snoc (l : List Sg) (s t : Sg) (h : s.base = t.base) : firstL (l ++ [s]) = firstL (l ++ [t]) := by cases l <;> simp [firstL, h]
theorem goes_snoc (s : Sg) : ∀ l : List Sg, goesOn l → (∀ q ∈ l, q.es ≠ []) → (l = [] ∨ nextL l = s.base) → goesOn (l ++ [s])
  | [], _, _, _ => trivial
  | [x], _, h, hn => ⟨by rcases hn with hn | hn; · cases hn
                         · simpa [nextL] using hn.symm, h x (by simp), trivial⟩
  | x :: y :: r, hg, h, hn => ⟨hg.1, hg.2.1, goes_snoc s (y :: r) hg.2.2 (fun q hq => h q (List.mem_cons_of_mem _ hq)) (.inr (by
      rcases hn with hn | hn
      · cases hn
      · simpa [nextL, List.getLast?_cons_cons] using hn))⟩
theorem goes_swap {s t : Sg} (hb : s.base = t.base) : ∀ l : List Sg, goesOn (l ++ [s]) → goesOn (l ++ [t])
  | [], _ => trivial
  | [_], h => ⟨hb ▸ h.1, h.2.1, trivial⟩
  | _ :: y :: r, h => ⟨h.1, h.2.1, goes_swap hb (y :: r) h.2.2⟩
theorem goes_front {s : Sg} : ∀ l : List Sg, goesOn (l ++ [s]) → goesOn l
  | [], _ => trivial
  | [_], _ => trivial
  | _ :: y :: r, h => ⟨h.1, h.2.1, goes_front (y :: r) h.2.2⟩
theorem goes_last {s : Sg} : ∀ l : List Sg, goesOn (l ++ [s]) → ∀ q ∈ l, q.next ≤ s.base
  | [], _, q, hq => by simp at hq
  | [x], h, q, hq => by
    obtain rfl := List.mem_singleton.1 hq
    exact Nat.le_of_eq h.1.symm
  | x :: y :: r, h, q, hq => by
    rcases List.mem_cons.1 hq with rfl | hq
    · have h1 := goes_last (y :: r) h.2.2 y (by simp)
      have h2 : y.base = q.next := h.1
      unfold Sg.next at h1 h2 ⊢
      omega
    · exact goes_last (y :: r) h.2.2 q hq

/-- The log tells K; all its files are there, and no others. -/
structure Fine (D : DS) (p : ByteArray) (l : List SV) (K : List (List Nat)) (R U M : Nat) : Prop where
  fails : D.fails = false
  room : D.room = R
  used : D.used = U
  made : D.made ≤ M
  goes : goesOn (l.map (·.1))
  full : ∀ q ∈ l, q.1.es ≠ []
  file : ∀ q ∈ l, There D (fileN p q.1.base) ∧ szO (D.now (fileN p q.1.base)) = q.1.size
  only : ∀ s, D.now s ≠ none → ∃ q ∈ l, s = fileN p q.1.base
  keep : (l.map fun q => q.1.es.map En.bs).flatten = K
  first : firstL (l.map (·.1)) = 0
  next : nextL (l.map (·.1)) = K.length
  le : ∀ q ∈ l, q.1.next ≤ K.length
  len : l.length ≤ K.length
  size : ∀ q ∈ l, q.1.size ≤ U

theorem Fine.fresh (p : ByteArray) (R : Nat) : Fine (DS.fresh R) p [] [] R 0 0 :=
  ⟨rfl, rfl, rfl, Nat.le_refl _, trivial, by simp, by simp, fun s h => absurd rfl h, rfl, rfl, rfl, by simp, by simp, by simp⟩

theorem refN_nat {s : ByteArray} (h : rightB s = true) (k : Nat) : refN false s (k : Nat) = 0 := by
  unfold refN
  rw [h]
  simp
theorem sync_same (D : DS) (s : ByteArray) : (D.sync s).room = D.room ∧ (D.sync s).used = D.used ∧ (D.sync s).made = D.made := by
  unfold DS.sync
  split <;> exact ⟨rfl, rfl, rfl⟩

/-- Where the next entry goes to: what is ahead, and the segment. -/
structure Slot (D : DS) (p : ByteArray) (l l0 : List SV) (K : List (List Nat)) (U b : Nat) (es : List En) : Prop where
  sub : ∀ q ∈ l0, q ∈ l
  goes : goesOn (l0.map (·.1) ++ [⟨b, es⟩])
  keep : (l0.map fun q => q.1.es.map En.bs).flatten ++ es.map En.bs = K
  num : b + es.length = K.length
  len : l0.length + (if es = [] then 0 else 1) ≤ K.length
  first : firstL (l0.map (·.1) ++ [⟨b, es⟩]) = 0
  size : szO (D.now (fileN p b)) = (⟨b, es⟩ : Sg).size
  le : (⟨b, es⟩ : Sg).size ≤ U
  apart : ∀ q ∈ l0, q.1.base ≠ b
  all : ∀ q ∈ l, q ∈ l0 ∨ q.1.base = b

theorem Fine.slotLast {D : DS} {p : ByteArray} {l0 : List SV} {x : SV} {K : List (List Nat)} {R U M : Nat} (h : Fine D p (l0 ++ [x]) K R U M) : Slot D p (l0 ++ [x]) l0 K U x.1.base x.1.es := by
  have hg := h.goes
  rw [List.map_append, List.map_cons, List.map_nil] at hg
  have hn := h.next
  rw [List.map_append, List.map_cons, List.map_nil, nextL_snoc] at hn
  have hf := h.first
  rw [List.map_append, List.map_cons, List.map_nil] at hf
  have hk := h.keep
  rw [List.map_append, List.map_cons, List.map_nil, List.flatten_append] at hk
  have hxe := h.full x (by simp)
  have hlen := h.len
  rw [List.length_append, List.length_singleton] at hlen
  refine ⟨fun q hq => List.mem_append_left _ hq, hg, by simpa using hk, hn, by rw [if_neg hxe]; exact hlen, hf, (h.file x (by simp)).2, h.size x (by simp), fun q hq e => ?_, fun q hq => ?_⟩
  · have h1 := goes_last _ hg q.1 (List.mem_map.2 ⟨q, hq, rfl⟩)
    have h2 := List.length_pos_iff.2 (h.full q (List.mem_append_left _ hq))
    unfold Sg.next at h1
    omega
  · rcases List.mem_append.1 hq with h1 | h1
    · exact .inl h1
    · exact .inr (by rw [List.mem_singleton.1 h1])
theorem Fine.slotNew {D : DS} {p : ByteArray} {l : List SV} {K : List (List Nat)} {R U M : Nat} (h : Fine D p l K R U M) : Slot D p l l K U K.length [] := by
  have hb : ∀ q ∈ l, q.1.base < K.length := fun q hq => by
    have h1 := h.le q hq
    have h2 := List.length_pos_iff.2 (h.full q hq)
    unfold Sg.next at h1
    omega
  refine ⟨fun q hq => hq, goes_snoc _ _ h.goes (fun q hq => ?_) ?_, by simpa using h.keep, by simp, by simpa using h.len, ?_, ?_, Nat.zero_le _, fun q hq => Nat.ne_of_lt (hb q hq), fun q hq => .inl hq⟩
  · obtain ⟨x, hx, rfl⟩ := List.mem_map.1 hq
    exact h.full x hx
  · exact .inr h.next
  · cases l with
    | nil =>
      have := h.next
      simp [nextL] at this
      simp [firstL, ← this]
    | cons x r =>
      have := h.first
      simpa [firstL] using this
  · have h0 : D.now (fileN p K.length) = none := Classical.byContradiction fun e => by
      obtain ⟨q, hq, h1⟩ := h.only _ e
      have := hb q hq
      have := file_inj h1
      omega
    rw [h0]
    rfl

/-- The entry is put behind. -/
theorem Slot.put {D DG : DS} {p : ByteArray} {l l0 : List SV} {K : List (List Nat)} {R U M b : Nat} {es : List En} (h : Fine D p l K R U M) (s : Slot D p l l0 K U b es)
    (hD : DG.fails = false ∧ DG.room = D.room ∧ DG.used = D.used ∧ DG.made = D.made ∧ DG.now = D.now ∧ DG.names = D.names) (bs : List Nat) (hbs : ∀ x ∈ bs, x < 256) (v : Value) (hr : rightB (fileN p b) = true) (hU : U + (12 + bs.length) ≤ R) :
    DG.writeN (fileN p b) (((⟨b, es⟩ : Sg).size : Nat) : Int) (frameN bs).length = 0 ∧
    Fine (DG.write (fileN p b) (((⟨b, es⟩ : Sg).size : Nat) : Int) (str (frameN bs))) p (l0 ++ [(⟨b, es ++ [⟨bs, (⟨b, es⟩ : Sg).size + (frameN bs).length⟩]⟩, v)]) (K ++ [bs]) R (U + (12 + bs.length)) (M + 1) := by
  obtain ⟨hf, hrm, hus, hmd, hnw, hnm⟩ := hD
  obtain ⟨S, hS⟩ : ∃ S, (⟨b, es⟩ : Sg).size = S := ⟨_, rfl⟩
  obtain ⟨F, hF⟩ : ∃ F, frameN bs = F := ⟨_, rfl⟩
  have hFl : F.length = 12 + bs.length := by rw [← hF, frameN_length]
  have hF256 : ∀ x ∈ F, x < 256 := by rw [← hF]; exact frameN_lt hbs
  obtain ⟨N, hN⟩ : ∃ N, fileN p b = N := ⟨_, rfl⟩
  have hsz := s.size
  have hle := s.le
  rw [hS] at hsz hle ⊢
  rw [hN] at hsz hr ⊢
  rw [hF]
  rw [← hnw] at hsz
  have hw : DG.writeN N (S : Nat) F.length = 0 := by
    unfold DS.writeN
    rw [hf, refN_nat hr, if_neg (by simp), if_neg (by omega), if_neg]
    rw [hrm, hus, h.room, h.used]
    simp only [Int.toNat_natCast]
    omega
  refine ⟨hw, ?_⟩
  have hwr : DG.write N (S : Nat) (str F) = DG.wrote N S (str F) := by unfold DS.write; rw [str_size, if_pos hw]; rfl
  rw [hwr]
  have hover : (overL ((DG.now N).getD []) S F).length = S + F.length := by
    have h1 : ((DG.now N).getD []).length = S := by rw [szO_getD]; exact hsz
    rw [overL_length _ _ (by omega), h1]
    omega
  have hmap : (l0 ++ [((⟨b, es ++ [⟨bs, S + F.length⟩]⟩ : Sg), v)]).map (·.1) = l0.map (·.1) ++ [⟨b, es ++ [⟨bs, S + F.length⟩]⟩] := by simp
  have hnum := s.num
  have hbase : ∀ q ∈ l0, fileN p q.1.base ≠ N := fun q hq e => s.apart q hq (file_inj (e.trans hN.symm))
  have hnow : ∀ t, t ≠ N → (DG.wrote N S (str F)).now t = D.now t := fun t ht => by
    show upd DG.now N _ t = _
    rw [upd_other _ _ ht, hnw]
  have hnowN : (DG.wrote N S (str F)).now N = some (overL ((DG.now N).getD []) S F) := by
    show upd DG.now N _ N = _
    rw [upd_same, bytesS_str hF256]
  have hnmN : ∀ t, t ∈ D.names ∨ t = N → t ∈ (DG.wrote N S (str F)).names := fun t ht => by
    show t ∈ (if N ∈ DG.names then DG.names else DG.names ++ [N])
    rw [hnm]
    rcases ht with ht | rfl
    · split
      · exact ht
      · exact List.mem_append_left _ ht
    · split
      · assumption
      · simp
  refine ⟨hf, hrm.trans h.room, ?_, ?_, ?_, fun q hq => ?_, fun q hq => ?_, fun t ht => ?_, ?_, ?_, ?_, fun q hq => ?_, ?_, fun q hq => ?_⟩
  · show DG.used + (S + (str F).size - szO (DG.now N)) = _
    rw [hus, h.used, hsz, str_size, hFl]
    omega
  · show DG.made + 1 ≤ M + 1
    rw [hmd]
    exact Nat.succ_le_succ h.made
  · rw [hmap]
    exact goes_swap (s := ⟨b, es⟩) (t := ⟨b, es ++ [⟨bs, S + F.length⟩]⟩) rfl _ s.goes
  · rcases List.mem_append.1 hq with h1 | h1
    · exact h.full q (s.sub q h1)
    · rw [List.mem_singleton.1 h1]; simp
  · rcases List.mem_append.1 hq with h1 | h1
    · obtain ⟨h2, h3⟩ := h.file q (s.sub q h1)
      have h4 := hbase q h1
      exact ⟨⟨by rw [hnow _ h4]; exact h2.now, hnmN _ (.inl h2.nm), h2.right⟩, by rw [hnow _ h4]; exact h3⟩
    · rw [List.mem_singleton.1 h1]
      show There _ (fileN p b) ∧ szO (DS.now _ (fileN p b)) = _
      rw [hN]
      refine ⟨⟨by rw [hnowN]; simp, hnmN _ (.inr rfl), hr⟩, ?_⟩
      rw [hnowN]
      show (overL ((DG.now N).getD []) S F).length = _
      rw [hover]
      simp [Sg.size]
  · by_cases e : t = N
    · exact ⟨_, List.mem_append_right _ (List.mem_singleton.2 rfl), by rw [e, ← hN]⟩
    · rw [hnow _ e] at ht
      obtain ⟨q, hq, h1⟩ := h.only t ht
      rcases s.all q hq with h2 | h2
      · exact ⟨q, List.mem_append_left _ h2, h1⟩
      · exact absurd (by rw [h1, h2, hN]) e
  · rw [List.map_append, List.map_cons, List.map_nil, List.flatten_append, ← s.keep]
    simp
  · rw [hmap]
    have h1 := firstL_snoc (l0.map (·.1)) (⟨b, es ++ [⟨bs, S + F.length⟩]⟩ : Sg) (⟨b, es⟩ : Sg) (by rfl)
    exact h1.trans s.first
  · rw [hmap, nextL_snoc]
    simp [Sg.next]
    omega
  · rcases List.mem_append.1 hq with h1 | h1
    · have := h.le q (s.sub q h1)
      simp
      omega
    · rw [List.mem_singleton.1 h1]
      simp [Sg.next]
      omega
  · have := s.len
    simp
    split at this <;> omega
  · rcases List.mem_append.1 hq with h1 | h1
    · have := h.size q (s.sub q h1)
      omega
    · rw [List.mem_singleton.1 h1]
      show Sg.size ⟨b, es ++ [⟨bs, S + F.length⟩]⟩ ≤ _
      simp [Sg.size]
      omega

end Go.Proofs.YtnhkpemajknfnaaGreatDoor.Seglog

/-
  Append on a log all of whose files are there: it goes on.
-/
namespace Go.Proofs.YtnhkpemajknfnaaGreatDoor.Seglog
open Go Go.RowKit Go.Lib Go.Proofs.YtnhkpemajknfnaaGreatDoor.Law Go.Proofs.YtnhkpemajknfnaaGreatDoor.Disk Go.Proofs.YtnhkpemajknfnaaGreatDoor.Frame Go.Proofs.YtnhkpemajknfnaaGreatDoor.Crc

/-- The segments with an entry behind. -/
def putL (room : Nat) (l : List Sg) (bs : List Nat) : List Sg :=
  match l.getLast? with
  | none => [⟨0, [⟨bs, 12 + bs.length⟩]⟩]
  | some x => if x.size < room then l.dropLast ++ [x.put bs] else l ++ [⟨x.next, [⟨bs, 12 + bs.length⟩]⟩]

/-- What Append answers and leaves. -/
def WentOn (Fr : Nat → Prop) (w W : World) (base lb db : Nat) (p : ByteArray) (room : Nat) (l : List SV) (K : List (List Nat)) (bs : List Nat) (R U M : Nat) (e : Ending) (Z : World) : Prop :=
  e = .returned (.tuple #[.int .i64 (K.length : Nat), .int .i64 0]) ∧ ∃ Fr2 v' l' D', (∀ k, Fr k → Fr2 k) ∧ (∀ k, Fr2 k → Fr k ∨ W.heap.size ≤ k) ∧ Lg Fr2 w base lb db D' p room false v' l' Z ∧
    Fine D' p l' (K ++ [bs]) R (U + (12 + bs.length)) (M + 1) ∧ DistL l' ∧ l'.map (·.1) = putL room (l.map (·.1)) bs ∧ (∀ k, Fr k → Alien W k → Z.heap[k]? = W.heap[k]?) ∧ W.heap.size ≤ Z.heap.size

theorem append_fine {Fr : Nat → Prop} {w W : World} {base db lb room R U M : Nat} {D : DS} {p : ByteArray} {v : Value} {l : List SV} {K : List (List Nat)} (h : Lg Fr w base lb db D p room false v l W) (hf : Fine D p l K R U M) (hd : DistL l)
    (hp : p.size ≤ 13) (hpr : ∀ b, b ≤ 4611686018427387904 → rightB (fileN p b) = true) (htab : Tab10 w) (hcrc : ∀ W', Below w.heap.size w W' → Tab W') (tv : Value) (bs : List Nat) (hbytes : Stay Fr w W tv bs) (hlen : bs.length ≤ 65536)
    (hU : U + (12 + bs.length) ≤ R) (hR : R ≤ 1073741824) (hM : M ≤ 1000000) (hK : K.length ≤ 1000000) (hrm : room ≤ 1048576) :
    Calls Tryz.prog 19 #[.pointer (some ⟨lb, 0, none⟩), tv] W (WentOn Fr w W base lb db p room l K bs R U M) := by
  have hll : l.length ≤ 1000000 := Nat.le_trans hf.len hK
  have hle : ∀ q ∈ l, q.1.next ≤ 1000000 := fun q hq => Nat.le_trans (hf.le q hq) hK
  have hnb : ∀ q ∈ l, q.1.next ≤ 9223372036854775807 := fun q hq => by have := hle q hq; omega
  have hbx : ∀ q ∈ l, q.1.base ≤ 4611686018427387904 := fun q hq => by have := hle q hq; unfold Sg.next at this; omega
  have hes : ∀ q ∈ l, q.1.es.length ≤ 1000000 := fun q hq => by have := hle q hq; unfold Sg.next at this; omega
  have hnx := hf.next
  have hat : nextL (l.map (·.1)) ≤ 9223372036854775806 := by rw [hnx]; omega
  have hkK : K.length ≤ 4611686018427387904 := by omega
  -- the new segment
  have new : ∀ (DG : DS), putL room (l.map (·.1)) bs = l.map (·.1) ++ [⟨K.length, [⟨bs, 12 + bs.length⟩]⟩] → (DG.fails = false ∧ DG.room = D.room ∧ DG.used = D.used ∧ DG.made = D.made ∧ DG.now = D.now ∧ DG.names = D.names) →
      (∀ (Fr' : Nat → Prop) (W' : World), Lg Fr' w base lb db D p room false v l W' → Calls Tryz.prog 43 #[.pointer (some ⟨lb, 0, none⟩)] W' fun e W'' => e = .returned (.tuple #[.int .i64 (l.length : Nat), segV K.length none 0 0, .int .i64 0]) ∧ Dx Fr' w db DG W'' ∧ SameOn Fr' W' W'') →
      Calls Tryz.prog 19 #[.pointer (some ⟨lb, 0, none⟩), tv] W (WentOn Fr w W base lb db p room l K bs R U M) := fun DG hput hDG hG => by
    have hs := hf.slotNew
    obtain ⟨hw, _⟩ := hs.put hf hDG bs hbytes.here.lt (.slice none 0 0) (hpr _ hkK) hU
    refine (append_calls h hp htab hcrc tv bs hbytes hlen (by omega) hnb hat hd l.length K.length 0 0 none [] (Nat.le_refl _) (EntsAt.nil _ _) rfl (fun g hg => by cases hg) (fun q hq g _ hg => by cases hg) hkK (Nat.zero_le _) (Nat.zero_le _) (by rw [hDG.2.2.2.1]; have := hf.made; omega) hw hG).mono ?_
    rintro e Z ⟨rfl, Fr2, v', A', c', h1, h2, h3, h4, h5, h6⟩
    have hfin := (hs.put hf hDG bs hbytes.here.lt (.slice A' (0 + 1) c') (hpr _ hkK) hU).2
    rw [List.take_length] at h3 h4
    refine ⟨by rw [hnx], Fr2, v', _, _, h1, h2, h3, hfin, h4, by rw [hput, List.map_append, List.map_cons, List.map_nil, frameN_length]; simp [Sg.size], fun k hk ha => ?_, h6⟩
    obtain ⟨a1, a2, _⟩ := ha.log h.2
    exact h5 k hk a1 a2 (fun e => by cases e)
  rcases List.eq_nil_or_concat l with rfl | ⟨l0, x, hl0⟩
  · have hK0 : K.length = 0 := by rw [← hnx]; rfl
    refine new D (by rw [hK0]; rfl) ⟨hf.fails, rfl, rfl, rfl, rfl, rfl⟩ (fun Fr' W' hL => ?_)
    rw [hK0]
    refine (growing_none hL.2.block hL.2.segs).mono ?_
    rintro e W'' ⟨rfl, hB⟩
    exact ⟨rfl, Dx.below hL.1 hB, Dx.sameOn hL.1 hB⟩
  · rw [List.concat_eq_append] at hl0
    have hx : l[l0.length]? = some x := by rw [hl0]; simp
    have hxm : x ∈ l := List.mem_of_getElem? hx
    have hlen1 : l.length = l0.length + 1 := by rw [hl0]; simp
    by_cases hsz : x.1.size < room
    · -- it has room
      obtain ⟨A, c, hv⟩ := rowForm (h.2.segs.2 x hxm)
      have hs : Slot D p l l0 K U x.1.base x.1.es := by
        have := hf
        rw [hl0] at this ⊢
        exact this.slotLast
      have hG : ∀ (Fr' : Nat → Prop) (W' : World), Lg Fr' w base lb db D p room false v l W' → Calls Tryz.prog 43 #[.pointer (some ⟨lb, 0, none⟩)] W' fun e W'' => e = .returned (.tuple #[.int .i64 (l0.length : Nat), segV x.1.base A x.1.es.length c, .int .i64 0]) ∧ Dx Fr' w db D W'' ∧ SameOn Fr' W' W'' := fun Fr' W' hL => by
        refine (growing_last hL.2 (by omega) l0.length x hlen1 hx (hnb x hxm) (by have := hes x hxm; omega) hrm (.inl hsz)).mono ?_
        rintro e W'' ⟨A', c', h1, rfl, hB⟩
        rw [hv] at h1
        simp only [Value.slice.injEq, true_and] at h1
        obtain ⟨rfl, rfl⟩ := h1
        exact ⟨rfl, Dx.below hL.1 hB, Dx.sameOn hL.1 hB⟩
      have htake : l.take l0.length = l0 := by rw [hl0]; simp
      have hE : EntsAt W base (.slice A x.1.es.length c) x.1.es := by rw [← hv]; exact h.2.segs.2 x hxm
      have hdl : ∀ q ∈ l.take l0.length, ∀ g, q.2.ownBlock = some g → (Value.slice A x.1.es.length c).ownBlock ≠ some g := fun q hq g h1 => by
        rw [htake] at hq
        rw [hl0] at hd
        rw [← hv]
        exact (List.pairwise_append.1 hd).2.2 q hq x (by simp) g h1
      have hDG : D.fails = false ∧ D.room = D.room ∧ D.used = D.used ∧ D.made = D.made ∧ D.now = D.now ∧ D.names = D.names := ⟨hf.fails, rfl, rfl, rfl, rfl, rfl⟩
      obtain ⟨hw, _⟩ := hs.put hf hDG bs hbytes.here.lt (.slice none 0 0) (hpr _ (hbx x hxm)) hU
      have hxs : x.1.size ≤ U := hf.size x hxm
      refine (append_calls h hp htab hcrc tv bs hbytes hlen (by omega) hnb hat hd l0.length x.1.base x.1.es.length c A x.1.es (by omega) hE rfl (fun g hg => h.2.re x hxm g (by rw [hv]; exact hg)) hdl (hbx x hxm) (by have := hes x hxm; omega) (by show x.1.size ≤ _; omega) (by have := hf.made; omega) hw hG).mono ?_
      rintro e Z ⟨rfl, Fr2, v', A', c', h1, h2, h3, h4, h5, h6⟩
      have hfin := (hs.put hf hDG bs hbytes.here.lt (.slice A' (x.1.es.length + 1) c') (hpr _ (hbx x hxm)) hU).2
      rw [htake] at h3 h4
      refine ⟨by rw [hnx], Fr2, v', _, _, h1, h2, h3, hfin, h4, ?_, fun k hk ha => ?_, h6⟩
      · rw [List.map_append, List.map_cons, List.map_nil, frameN_length, hl0, List.map_append, List.map_cons, List.map_nil]
        unfold putL
        rw [List.getLast?_concat]
        simp only
        rw [if_pos hsz, List.dropLast_concat]
        rfl
      obtain ⟨a1, a2, a3⟩ := ha.log h.2
      exact h5 k hk a1 a2 (by rw [← hv]; exact a3 x hxm)
    · -- it is full
      have hth := (hf.file x hxm).1
      have hs0 := syncN_ok hf.fails hth.nm hth.right
      obtain ⟨e1, e2, e3, e4⟩ := sync_there hf.fails hth
      obtain ⟨e5, e6, e7⟩ := sync_same D (fileN p x.1.base)
      have hxn : x.1.next = K.length := by
        rw [← hnx, hl0, List.map_append, List.map_cons, List.map_nil, nextL_snoc]
      refine new (D.sync (fileN p x.1.base)) (by
        rw [hl0, List.map_append, List.map_cons, List.map_nil]
        unfold putL
        rw [List.getLast?_concat]
        simp only
        rw [if_neg hsz, hxn]) ⟨e1, e5, e6, e7, e2, e3⟩ (fun Fr' W' hL => ?_)
      refine (growing_next hL hp hbx htab (by omega) l0.length x hlen1 hx (hnb x hxm) (by have := hes x hxm; omega) hrm (by omega) (by rw [hxn]; exact hkK)).mono ?_
      rintro e W'' ⟨rfl, h1, h2⟩
      rw [hs0, hxn, hlen1]
      exact ⟨rfl, h1, h2⟩

set_option maxRecDepth 100000 in
set_option maxHeartbeats 2000000 in
/-- An entry that is too long for a frame. -/
theorem append_long {lb db room : Nat} {p : ByteArray} {v : Value} {W : World} (h : LB W lb db p room v false) (hcrc : Tab W) (tv : Value) (bs : List Nat) (hbytes : Bytes W.heap.size W tv bs) (hlen : ¬ bs.length ≤ 65536) :
    Calls Tryz.prog 19 #[.pointer (some ⟨lb, 0, none⟩), tv] W fun e Z => e = .returned (.tuple #[.int .i64 0, .int .i64 2]) ∧ Below W.heap.size W Z := by
  have C0 := Lib.hid (refuses_calls lb db room p v false W h)
  have C1 := Lib.hid (put_calls tv bs W hcrc hbytes)
  have hput : putN bs = ([], 2) := by unfold putN; rw [if_neg hlen]
  rw [hput] at C1
  clear h hcrc hbytes hlen hput
  go_enter Tryz.func19, Tryz.ntmps19
  go_wp2_with fail
  refine C0.out.mono ?_
  clear C0
  rintro e W1 ⟨rfl, rfl⟩
  go_wp2_with fail
  refine C1.out.mono ?_
  clear C1
  rintro e W2 ⟨fv, rfl, _, hB2⟩
  have HB2 := Lib.hid hB2
  clear hB2
  go_wp2_with fail
  refine bodyPost_ret (v := .tuple #[.int .i64 0, .int .i64 2]) (by simp [results, Tryz.results19, go_sem]) rfl ?_
  exact ⟨rfl, HB2.out⟩

end Go.Proofs.YtnhkpemajknfnaaGreatDoor.Seglog
