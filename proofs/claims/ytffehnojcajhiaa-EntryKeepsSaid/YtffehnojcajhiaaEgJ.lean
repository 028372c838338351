/-
  Contract of Encode: an entry's text, or the error. Contract of Decode: the entry of a text, or the error. The chapter's example.
-/
import Derived.Test.YtffehnojcajhiaaEgD
import Derived.Test.YtffehnojcajhiaaEgE
import Derived.Test.YtffehnojcajhiaaWireEncode
import Derived.Test.YtffehnojcajhiaaEgI
import Derived.Test.YtffehnojcajhiaaEgA
import Derived.Test.YtffehnojcajhiaaWireDecode
import Derived.Lib.ConvBytes
import Derived.BigQuiet
import Derived.Deep.QuietTactic
namespace Go.Proofs.Ytffehnojcajhiaa.Wire.Entry
open Go Go.RowKit Go.Proofs.Ytffehnojcajhiaa.Law

/-- A text and a number. -/
def RetText (w : World) (R : List Nat × Nat) (e : Ending) (W : World) : Prop := e = .returned (.tuple #[.string (str R.1), .int .i64 (R.2 : Nat)]) ∧ Below w.heap.size w W

theorem str_nil : str [] = ⟨#[]⟩ := rfl

set_option maxRecDepth 100000 in
set_option maxHeartbeats 2000000 in
theorem encodeE_calls (e : Ent) (hw : e.wf) (u : Value) (w : World) (h : OldO w.heap.size w u e.ops) : Calls Try.prog 8 #[entV e u] w (RetText w (encE e)) := by
  obtain ⟨g, hg⟩ := exB e.good
  obtain ⟨⟨bs, er⟩, hR⟩ : ∃ R, encE e = R := ⟨_, rfl⟩
  rw [hR]
  have HR := Lib.hid hR
  obtain ⟨b, hb⟩ : ∃ b, w.heap.size = b := ⟨_, rfl⟩
  have hB0 := (Below.refl w.heap.size w).alloc (Nat.le_refl _) (.cells #[.int .i64 e.kind, .int .i64 e.r.p, .int .i64 e.r.q, .int .i64 e.r.a, .string e.r.key, .int .u32 (e.r.val : Nat), u, .int .i64 e.n] 29)
  have CG := Lib.hid (good_calls e hw u _ (OpsAt.on hB0 h) g hg)
  have HG := Lib.hid hg
  have HB0 := Lib.hid hB0
  have hE0 := EBox.new w e u
  rw [hb] at hE0
  have HE0 := Lib.hid hE0
  have hs0 : (w.alloc (.cells #[.int .i64 e.kind, .int .i64 e.r.p, .int .i64 e.r.q, .int .i64 e.r.a, .string e.r.key, .int .u32 (e.r.val : Nat), u, .int .i64 e.n] 29)).heap.size = b + 1 := by simp [hb]
  have HS0 := Lib.hid hs0
  have HO := Lib.hid h
  have HW := Lib.hid hw
  have HBB := Lib.hid hb
  clear hR hg hB0 hE0 hs0 h hw hb
  go_enter Try.func8, Try.ntmps8
  go_wp2_with fail
  refine CG.out.mono ?_
  rintro e0 w1 ⟨rfl, B1⟩
  have hs1 : b < w1.heap.size := by have := B1.size; rw [HS0.out] at this; omega
  have hE1 := HE0.out.low B1
  have hB1 : Below w.heap.size w w1 := HB0.out.trans (B1.mono (by simp))
  have HB1 := Lib.hid hB1
  have HE1 := Lib.hid hE1
  clear B1 hE1 hB1 CG HB0 HE0 HS0
  rw [HBB.out]
  cases g with
  | false =>
    have hR := (encE_bad fun h => absurd (HG.out.2 h) (by decide)).symm.trans HR.out
    simp only [Prod.mk.injEq] at hR
    obtain ⟨rfl, rfl⟩ := hR
    clear HG
    go_wp2_with fail
    go_ret2
    exact ⟨rfl, HB1.out⟩
  | true =>
    have hgood := HG.out.1 rfl
    have hR : encN (msg e) = (bs, er) := (encE_good hgood).symm.trans HR.out
    have HR2 := Lib.hid hR
    have CM := Lib.hid (message_calls e HW.out hgood u w1 (OpsAt.on HB1.out HO.out))
    obtain ⟨c0, c1, c2, c3, c4, c5, c6, c7⟩ := HE1.out.cells
    clear hR hgood HG
    go_wp2_with fail
    refine CM.out.mono ?_
    rintro e0 w2 ⟨v2, rfl, hF⟩
    have cE := encode_calls (msg e) (msg_sized HW.out) (by have := msg_length e; omega) v2 w2 (hF.1.mono fun _ h => h.2)
    rw [HR2.out] at cE
    have CE := Lib.hid cE
    have HB2 := Lib.hid (HB1.out.trans (hF.2.mono HB1.out.size))
    clear hF cE CM c0 c1 c2 c3 c4 c5 c6 c7 HB1 HE1
    go_wp2_with fail
    refine CE.out.mono ?_
    rintro e0 w3 ⟨v3, rfl, hO, hB⟩
    have hcv := run_string_bytes (P := Try.prog) w3 Try.underlying48 Try.underlying5 Try.underlying9 hO.bytes
    have HB3 := Lib.hid (HB2.out.trans (hB.mono HB2.out.size))
    clear hO hB HB2 CE
    go_wp2_with fail
    go_ret2
    exact ⟨rfl, HB3.out⟩

end Go.Proofs.Ytffehnojcajhiaa.Wire.Entry

namespace Go.Proofs.Ytffehnojcajhiaa.Wire.Entry
open Go Go.RowKit Go.Proofs.Ytffehnojcajhiaa.Law

theorem read_calls (l : List Item) (hs : nodesL l ≤ 4096) (v : Value) (w : World) (hI : Old w.heap.size w v l) : Calls Try.prog 25 #[v] w (RetEnt w (rdE l)) := by
  cases l with
  | nil => exact read_nil v w hI
  | cons x f => exact read_cons x f hs v w hI

theorem exec_ran {P : Program} {ops : Array Oper} {rest : List Oper} {o : Oper} {a : Act} {w w' : World} {Q : Exit → Act → World → Prop} (hgd : Region.wanted o (yielded ops a.tmps) = true) {v : Value}
    (hrun : (execOp a.eval o).run P w = .ok (.value v) w') (h : wpList P ops Q rest (a.put o.dst v) w') : wpList P ops Q (o :: rest) a w := by
  refine wpList_step fun K hK => ?_
  rw [if_pos hgd]
  unfold Oper.wp
  rw [hrun]
  exact hK _ _ h
theorem conv_ran {P : Program} {ρ : Operand → Value} {o : Oper} {w w' : World} {src dst : TypeId} {x : Operand} {xv v : Value} (hrun : (convert src dst xv).run P w = .ok v w') (ho : o.op = .convert src dst x := by rfl) (hx : ρ x = xv := by rfl) : (execOp ρ o).run P w = .ok (.value v) w' := by
  unfold execOp
  simp only [ho, hx, Sem.run_bind, Sem.run_pure, hrun, Result.andThen_ok]

theorem bw_below (w : World) (e : TypeId) (s : ByteArray) : Below w.heap.size w (Lib.bytesWorld w e s) :=
  ⟨rfl, rfl, rfl, by rw [Lib.bytesWorld_size]; omega, fun k hk => Lib.bytesWorld_at_old w e s k hk⟩
theorem bw_bytes (w : World) (s : ByteArray) : Bytes (Lib.bytesWorld w 5 s).heap.size (Lib.bytesWorld w 5 s) (.slice (some ⟨w.heap.size, 0, none⟩) s.size (grownCap w s.size 0 5)) (sb s) := by
  refine ⟨_, _, by rw [sb_length], by rw [sb_length]; exact grownCap_ge _ _ _ _, (fun h => by cases h), sb_lt s, fun _ => ⟨w.heap.size, 0, rfl, by rw [Lib.bytesWorld_size]; omega, fun j hj => ?_⟩⟩
  rw [sb_length] at hj
  rw [Nat.zero_add, Lib.bytesWorld_cell w _ s j hj]
  congr 2
  rw [List.getD, List.getD]
  unfold sb
  rw [List.getElem?_map]
  cases s.data.toList[j]? <;> rfl

theorem rdTop_err' : ∀ (f c : Nat) (bs : List Nat) (acc : List Item) (k : Nat), rdTop f c bs acc = .error k → k ≠ 0 := by
  intro f
  induction f with
  | zero => intro c bs acc k h; simp [rdTop] at h; omega
  | succ f ih =>
    intro c bs acc k h
    rw [rdTop] at h
    split at h
    · cases h
    · match hq : rdI 8 c bs with
      | .error e => rw [hq] at h; simp only [Except.error.injEq] at h; subst h; exact rdI_err _ _ _ _ hq
      | .ok (y, c2, r2) => rw [hq] at h; exact ih _ _ _ _ h
theorem decN_err' {bs : List Nat} {k : Nat} (h : decN bs = .error k) : k ≠ 0 := by
  unfold decN at h
  split at h
  · simp only [Except.error.injEq] at h; omega
  · exact rdTop_err' _ _ _ _ _ h

/-- What Decode answers. -/
def RetDec (w : World) (r : Option Ent) (e : Ending) (W : World) : Prop :=
  ∃ (x : Ent) (A : Option Addr) (n c : Nat), e = .returned (.tuple #[entV x (.slice A n c), .int .i64 (if r.isSome then 0 else 3)]) ∧ (∀ y, r = some y → x = y) ∧ (r = none → x = zeroE) ∧ OpsAt (fun k => w.heap.size ≤ k ∧ k < W.heap.size) W (.slice A n c) x.ops ∧ Below w.heap.size w W

theorem retDec_none {w W : World} (hB : Below w.heap.size w W) : RetDec w none (.returned (.tuple #[entV zeroE (.slice none 0 0), .int .i64 3])) W :=
  ⟨zeroE, none, 0, 0, rfl, (fun y h => by cases h), (fun _ => rfl), OpsAt.nil _ _, hB⟩

set_option maxRecDepth 100000 in
set_option maxHeartbeats 2000000 in
theorem decodeE_calls (s : ByteArray) (hlen : s.size ≤ 140737488351232) (w : World) : Calls Try.prog 13 #[.string s] w (RetDec w (decE (sb s))) := by
  obtain ⟨ro, hro⟩ : ∃ r, decE (sb s) = r := ⟨_, rfl⟩
  rw [hro]
  obtain ⟨b, hb⟩ : ∃ b, w.heap.size = b := ⟨_, rfl⟩
  have hcv := Lib.run_convert_string_bytes (P := Try.prog) (w.alloc Z8) 9 48 5 s Try.underlying9 Try.underlying48 Try.underlying5
  have hby := bw_bytes (w.alloc Z8) s
  have hbw : Below w.heap.size w (Lib.bytesWorld (w.alloc Z8) 5 s) := ((Below.refl _ _).alloc (Nat.le_refl _) Z8).trans ((bw_below (w.alloc Z8) 5 s).mono (by simp))
  have hbr : (Lib.bytesWorld (w.alloc Z8) 5 s).heap[b]? = some Z8 := by
    rw [← hb]
    exact ((bw_below (w.alloc Z8) 5 s).block w.heap.size (by simp)).trans (heap_alloc_new w _)
  have hsz : (Lib.bytesWorld (w.alloc Z8) 5 s).heap.size = b + 2 := by rw [Lib.bytesWorld_size]; simp [hb]
  rw [World.size_alloc, hb] at hcv hby
  generalize Lib.bytesWorld (w.alloc Z8) 5 s = w1 at hcv hby hbw hbr hsz
  generalize grownCap (w.alloc Z8) s.size 0 5 = gc at hcv hby
  have cD := decode_calls (sb s) (by rw [sb_length]; omega) _ w1 hby
  obtain ⟨⟨dl, de⟩, hD⟩ : ∃ R, decR (sb s) = R := ⟨_, rfl⟩
  rw [hD] at cD
  have CD := Lib.hid cD
  have HDD := Lib.hid hD
  have HCV := Lib.hid hcv
  have HBW := Lib.hid hbw
  have HBR := Lib.hid hbr
  have HSZ := Lib.hid hsz
  have HRO := Lib.hid hro
  have HBB := Lib.hid hb
  clear hcv hby hbw hbr hsz hro hlen hD cD
  go_enter Try.func13, Try.ntmps13
  go_wp2_with (refine exec_ran (o := ⟨some 10, _, _, _, _, _⟩) rfl (conv_ran HCV.out) ?_)
  refine CD.out.mono ?_
  rintro e w2 ⟨u, rfl, hB2, hI2⟩
  obtain ⟨Au, cu, rfl, _⟩ := hI2.form
  simp only at hI2 ⊢
  obtain ⟨n, hn⟩ : ∃ n, dl.length = n := ⟨_, rfl⟩
  rw [hn] at hI2 ⊢
  have hbr2 := (hB2.block b (by have := HSZ.out; omega)).trans HBR.out
  have hBw : Below w.heap.size w w2 := HBW.out.trans (hB2.mono (by have := HSZ.out; omega))
  have hs2 : b + 2 ≤ w2.heap.size := by have := hB2.size; have := HSZ.out; omega
  have HBR2 := Lib.hid hbr2
  have HB2 := Lib.hid hBw
  have HI2 := Lib.hid (Items.mono (fun k hk => hk.2) hI2 : Old w2.heap.size w2 (.slice Au n cu) dl)
  obtain ⟨⟨p0, p1, p2, p3, p4, p5, p6, p7⟩, z0, z1, z2, z3, z4, z5, z6, z7⟩ := box8 hbr2
  clear hB2 hI2 CD HCV hbr2 hBw hn HBR HBW
  match hq : decN (sb s) with
  | .error k =>
    have hR := HDD.out.symm.trans (show decR (sb s) = ([], k) by unfold decR; rw [hq]; rfl)
    simp only [Prod.mk.injEq] at hR
    obtain ⟨rfl, rfl⟩ := hR
    have hk0 : de ≠ 0 := decN_err' hq
    obtain rfl : ro = none := by rw [← HRO.out]; unfold decE; rw [hq]
    have hkI : ¬ (de : Int) = 0 := by omega
    clear hq hk0 HI2 p0 p1 p2 p3 p4 p5 p6 p7 z0 z1 z2 z3 z4 z5 z6 z7
    obtain ⟨⟨p0, p1, p2, p3, p4, p5, p6, p7⟩, z0, z1, z2, z3, z4, z5, z6, z7⟩ := box8 HBR2.out
    go_wp2_with fail
    have hfin := stored8 HBR2.out (.int .i64 0) (.int .i64 0) (.int .i64 0) (.int .i64 0) (.string ⟨#[]⟩) (.int .u32 0) (.slice none 0 0) (.int .i64 0)
    have hgr : w2.grownBy _ (some b) := set8_grown (W := w2) (b := b) (.int .i64 0) (.int .i64 0) (.int .i64 0) (.int .i64 0) (.string ⟨#[]⟩) (.int .u32 0) (.slice none 0 0) (.int .i64 0)
    clear p0 p1 p2 p3 p4 p5 p6 p7 z0 z1 z2 z3 z4 z5 z6 z7
    generalize ((((((((w2.setCell ⟨b, 0, none⟩ (.int .i64 0)).setCell ⟨b, 1, none⟩ (.int .i64 0)).setCell ⟨b, 2, none⟩ (.int .i64 0)).setCell ⟨b, 3, none⟩ (.int .i64 0)).setCell ⟨b, 4, none⟩ (.string ⟨#[]⟩)).setCell ⟨b, 5, none⟩ (.int .u32 0)).setCell ⟨b, 6, none⟩ (.slice none 0 0)).setCell ⟨b, 7, none⟩ (.int .i64 0)) = W at hfin hgr ⊢
    obtain ⟨⟨r0, r1, r2, r3, r4, r5, r6, r7⟩, _⟩ := box8 hfin
    have hWB : Below w.heap.size w W := HB2.out.grown hgr (by have := HB2.out.size; omega) (fun k hk => by simp only [Option.some.injEq] at hk; have := HBB.out; omega)
    exact bodyPost_ret (v := .tuple #[.agg #[.int .i64 0, .int .i64 0, .int .i64 0, .int .i64 0, .string ⟨#[]⟩, .int .u32 0, .slice none 0 0, .int .i64 0], .int .i64 3]) (by simp [results, Try.results13, go_sem, r0, r1, r2, r3, r4, r5, r6, r7]) rfl (retDec_none hWB)
  | .ok l =>
    have hR := HDD.out.symm.trans (show decR (sb s) = (l, 0) by unfold decR; rw [hq]; rfl)
    simp only [Prod.mk.injEq] at hR
    obtain ⟨rfl, rfl⟩ := hR
    have hback := dec_back (sb_lt s) hq
    have hro : ro = match rdE dl with | none => none | some e => if bP e.good = true then some e else none := by rw [← HRO.out]; unfold decE; rw [hq]; rfl
    have HRO2 := Lib.hid hro
    have CR := Lib.hid (read_calls dl hback.2.2 _ w2 HI2.out)
    have HWF : Hid (∀ e, rdE dl = some e → e.wf) := Lib.hid fun e he => dec_wf (sb_lt s) hq he
    obtain ⟨r, hr⟩ : ∃ r, rdE dl = r := ⟨_, rfl⟩
    rw [hr] at CR HRO2 HWF
    clear hback hq hro hr HI2 HRO p0 p1 p2 p3 p4 p5 p6 p7 z0 z1 z2 z3 z4 z5 z6 z7
    go_wp2_with fail
    refine CR.out.mono ?_
    rintro e w3 ⟨x, A1, n1, c1, rfl, hx, hB3⟩
    have hbr3 := (hB3.block b (by omega)).trans HBR2.out
    have hBw : Below w.heap.size w w3 := HB2.out.trans (hB3.mono (by have := HBB.out; omega))
    have hs3 : b + 2 ≤ w3.heap.size := by have := hB3.size; omega
    have hbr4 : (w3.alloc (.cells #[.int .i64 x.kind, .int .i64 x.r.p, .int .i64 x.r.q, .int .i64 x.r.a, .string x.r.key, .int .u32 (x.r.val : Nat), .slice A1 n1 c1, .int .i64 x.n] 29)).heap[b]? = some Z8 := (Below.heap_alloc w3 _ b (by omega)).trans hbr3
    have hB4 : Below w.heap.size w (w3.alloc (.cells #[.int .i64 x.kind, .int .i64 x.r.p, .int .i64 x.r.q, .int .i64 x.r.a, .string x.r.key, .int .u32 (x.r.val : Nat), .slice A1 n1 c1, .int .i64 x.n] 29)) := hBw.alloc (by have := HBB.out; omega) _
    have HBR4 := Lib.hid hbr4
    have HB4 := Lib.hid hB4
    have HX := Lib.hid hx
    have HB3 := Lib.hid hB3
    clear hB3 hbr3 hBw hbr4 hB4 hx CR HBR2 HB2
    cases r with
    | none =>
      obtain rfl : ro = none := HRO2.out
      have hbr5 : w3.heap[b]? = some Z8 := (Below.heap_alloc w3 (.cells #[.int .i64 x.kind, .int .i64 x.r.p, .int .i64 x.r.q, .int .i64 x.r.a, .string x.r.key, .int .u32 (x.r.val : Nat), .slice A1 n1 c1, .int .i64 x.n] 29) b (by omega)).symm.trans HBR4.out
      have hb3 : b < w3.heap.size := by omega
      obtain ⟨⟨p0, p1, p2, p3, p4, p5, p6, p7⟩, z0, z1, z2, z3, z4, z5, z6, z7⟩ := box8 hbr5
      have HBR5 := Lib.hid hbr5
      have HB3W : Hid (Below w.heap.size w w3) := Lib.hid ⟨HB4.out.os, HB4.out.tape, HB4.out.output, by have := HBB.out; omega, fun k hk => (Below.heap_alloc w3 (.cells #[.int .i64 x.kind, .int .i64 x.r.p, .int .i64 x.r.q, .int .i64 x.r.a, .string x.r.key, .int .u32 (x.r.val : Nat), .slice A1 n1 c1, .int .i64 x.n] 29) k (by have := HBB.out; omega)).symm.trans (HB4.out.block k hk)⟩
      clear hbr5
      go_wp2_with fail
      have hgr : w3.grownBy _ (some b) := set8_grown (W := w3) (b := b) (.int .i64 0) (.int .i64 0) (.int .i64 0) (.int .i64 0) (.string ⟨#[]⟩) (.int .u32 0) (.slice none 0 0) (.int .i64 0)
      have hfin : (((((((((w3.setCell ⟨b, 0, none⟩ (.int .i64 0)).setCell ⟨b, 1, none⟩ (.int .i64 0)).setCell ⟨b, 2, none⟩ (.int .i64 0)).setCell ⟨b, 3, none⟩ (.int .i64 0)).setCell ⟨b, 4, none⟩ (.string ⟨#[]⟩)).setCell ⟨b, 5, none⟩ (.int .u32 0)).setCell ⟨b, 6, none⟩ (.slice none 0 0)).setCell ⟨b, 7, none⟩ (.int .i64 0)).alloc (.cells #[.int .i64 x.kind, .int .i64 x.r.p, .int .i64 x.r.q, .int .i64 x.r.a, .string x.r.key, .int .u32 (x.r.val : Nat), .slice A1 n1 c1, .int .i64 x.n] 29)).heap[b]? = _ := (Below.heap_alloc _ _ b (Nat.lt_of_lt_of_le hb3 hgr.size)).trans (stored8 HBR5.out (.int .i64 0) (.int .i64 0) (.int .i64 0) (.int .i64 0) (.string ⟨#[]⟩) (.int .u32 0) (.slice none 0 0) (.int .i64 0))
      have hWB : Below w.heap.size w (((((((((w3.setCell ⟨b, 0, none⟩ (.int .i64 0)).setCell ⟨b, 1, none⟩ (.int .i64 0)).setCell ⟨b, 2, none⟩ (.int .i64 0)).setCell ⟨b, 3, none⟩ (.int .i64 0)).setCell ⟨b, 4, none⟩ (.string ⟨#[]⟩)).setCell ⟨b, 5, none⟩ (.int .u32 0)).setCell ⟨b, 6, none⟩ (.slice none 0 0)).setCell ⟨b, 7, none⟩ (.int .i64 0)).alloc (.cells #[.int .i64 x.kind, .int .i64 x.r.p, .int .i64 x.r.q, .int .i64 x.r.a, .string x.r.key, .int .u32 (x.r.val : Nat), .slice A1 n1 c1, .int .i64 x.n] 29)) := (HB3W.out.grown hgr (by have := HBB.out; omega) (fun k hk => by simp only [Option.some.injEq] at hk; have := HBB.out; omega)).alloc (Nat.le_trans (by have := HBB.out; omega) hgr.size) _
      clear hgr p0 p1 p2 p3 p4 p5 p6 p7 z0 z1 z2 z3 z4 z5 z6 z7
      generalize (((((((((w3.setCell ⟨b, 0, none⟩ (.int .i64 0)).setCell ⟨b, 1, none⟩ (.int .i64 0)).setCell ⟨b, 2, none⟩ (.int .i64 0)).setCell ⟨b, 3, none⟩ (.int .i64 0)).setCell ⟨b, 4, none⟩ (.string ⟨#[]⟩)).setCell ⟨b, 5, none⟩ (.int .u32 0)).setCell ⟨b, 6, none⟩ (.slice none 0 0)).setCell ⟨b, 7, none⟩ (.int .i64 0)).alloc (.cells #[.int .i64 x.kind, .int .i64 x.r.p, .int .i64 x.r.q, .int .i64 x.r.a, .string x.r.key, .int .u32 (x.r.val : Nat), .slice A1 n1 c1, .int .i64 x.n] 29)) = W at hfin hWB ⊢
      obtain ⟨⟨r0, r1, r2, r3, r4, r5, r6, r7⟩, _⟩ := box8 hfin
      exact bodyPost_ret (v := .tuple #[.agg #[.int .i64 0, .int .i64 0, .int .i64 0, .int .i64 0, .string ⟨#[]⟩, .int .u32 0, .slice none 0 0, .int .i64 0], .int .i64 3]) (by simp [results, Try.results13, go_sem, r0, r1, r2, r3, r4, r5, r6, r7]) rfl (retDec_none hWB)
    | some y =>
      obtain ⟨rfl, hop⟩ := HX.out y rfl
      have hwf := HWF.out x rfl
      obtain ⟨g, hg⟩ := exB x.good
      have hOP : OldO (w3.alloc (.cells #[.int .i64 x.kind, .int .i64 x.r.p, .int .i64 x.r.q, .int .i64 x.r.a, .string x.r.key, .int .u32 (x.r.val : Nat), .slice A1 n1 c1, .int .i64 x.n] 29)).heap.size (w3.alloc (.cells #[.int .i64 x.kind, .int .i64 x.r.p, .int .i64 x.r.q, .int .i64 x.r.a, .string x.r.key, .int .u32 (x.r.val : Nat), .slice A1 n1 c1, .int .i64 x.n] 29)) (.slice A1 n1 c1) x.ops := hop.keep (fun k hk => Below.heap_alloc w3 _ k hk.2) (fun k hk => by have := hk.2; simp; omega)
      have CG := Lib.hid (good_calls x hwf _ _ hOP g hg)
      have hEB := EBox.new w3 x (.slice A1 n1 c1)
      have HEB := Lib.hid hEB
      have HOP := Lib.hid hop
      have HG := Lib.hid hg
      clear hop hwf hOP hEB hg HX HWF
      go_wp2_with fail
      refine CG.out.mono ?_
      rintro e w5 ⟨rfl, hB5⟩
      have hs5 : w3.heap.size + 1 ≤ w5.heap.size := by have := hB5.size; simpa using this
      have hbr5 := (hB5.block b (by simp; omega)).trans HBR4.out
      have hBw5 : Below w.heap.size w w5 := HB4.out.trans (hB5.mono (by have := HB4.out.size; omega))
      have hE5 := HEB.out.low hB5
      have hop5 : OpsAt (fun k => b + 2 ≤ k ∧ k < w5.heap.size) w5 (.slice A1 n1 c1) x.ops := HOP.out.keep (fun k hk => (hB5.block k (by have := hk.2; simp; omega)).trans (Below.heap_alloc w3 _ k hk.2)) (fun k hk => ⟨by have := hk.1; omega, by have := hk.2; omega⟩)
      have HBR5 := Lib.hid hbr5
      have HB5 := Lib.hid hBw5
      have HE5 := Lib.hid hE5
      have HOP5 := Lib.hid hop5
      clear hB5 hbr5 hBw5 hE5 hop5 CG HEB HOP HB3 HBR4 HB4
      cases g with
      | false =>
        obtain rfl : ro = none := by
          rw [HRO2.out]
          have : bP x.good = false := bP_false fun h => by have := HG.out.2 h; cases this
          rw [this]; rfl
        clear HG HRO2 HOP5 HE5
        obtain ⟨⟨p0, p1, p2, p3, p4, p5, p6, p7⟩, z0, z1, z2, z3, z4, z5, z6, z7⟩ := box8 HBR5.out
        go_wp2_with fail
        have hfin := stored8 HBR5.out (.int .i64 0) (.int .i64 0) (.int .i64 0) (.int .i64 0) (.string ⟨#[]⟩) (.int .u32 0) (.slice none 0 0) (.int .i64 0)
        have hgr : w5.grownBy _ (some b) := set8_grown (W := w5) (b := b) (.int .i64 0) (.int .i64 0) (.int .i64 0) (.int .i64 0) (.string ⟨#[]⟩) (.int .u32 0) (.slice none 0 0) (.int .i64 0)
        clear p0 p1 p2 p3 p4 p5 p6 p7 z0 z1 z2 z3 z4 z5 z6 z7
        generalize ((((((((w5.setCell ⟨b, 0, none⟩ (.int .i64 0)).setCell ⟨b, 1, none⟩ (.int .i64 0)).setCell ⟨b, 2, none⟩ (.int .i64 0)).setCell ⟨b, 3, none⟩ (.int .i64 0)).setCell ⟨b, 4, none⟩ (.string ⟨#[]⟩)).setCell ⟨b, 5, none⟩ (.int .u32 0)).setCell ⟨b, 6, none⟩ (.slice none 0 0)).setCell ⟨b, 7, none⟩ (.int .i64 0)) = W at hfin hgr ⊢
        obtain ⟨⟨r0, r1, r2, r3, r4, r5, r6, r7⟩, _⟩ := box8 hfin
        have hWB : Below w.heap.size w W := HB5.out.grown hgr (by have := HB5.out.size; omega) (fun k hk => by simp only [Option.some.injEq] at hk; have := HBB.out; omega)
        exact bodyPost_ret (v := .tuple #[.agg #[.int .i64 0, .int .i64 0, .int .i64 0, .int .i64 0, .string ⟨#[]⟩, .int .u32 0, .slice none 0 0, .int .i64 0], .int .i64 3]) (by simp [results, Try.results13, go_sem, r0, r1, r2, r3, r4, r5, r6, r7]) rfl (retDec_none hWB)
      | true =>
        obtain rfl : ro = some x := by
          rw [HRO2.out]
          have : bP x.good = true := bP_true (HG.out.1 rfl)
          rw [this]; rfl
        clear HG HRO2
        obtain ⟨⟨p0, p1, p2, p3, p4, p5, p6, p7⟩, z0, z1, z2, z3, z4, z5, z6, z7⟩ := box8 HBR5.out
        obtain ⟨f0, f1, f2, f3, f4, f5, f6, f7⟩ := HE5.out.cells
        go_wp2_with fail
        have hfin := stored8 HBR5.out (.int .i64 x.kind) (.int .i64 x.r.p) (.int .i64 x.r.q) (.int .i64 x.r.a) (.string x.r.key) (.int .u32 (x.r.val : Nat)) (.slice A1 n1 c1) (.int .i64 x.n)
        have hgr : w5.grownBy _ (some b) := set8_grown (W := w5) (b := b) (.int .i64 x.kind) (.int .i64 x.r.p) (.int .i64 x.r.q) (.int .i64 x.r.a) (.string x.r.key) (.int .u32 (x.r.val : Nat)) (.slice A1 n1 c1) (.int .i64 x.n)
        clear p0 p1 p2 p3 p4 p5 p6 p7 z0 z1 z2 z3 z4 z5 z6 z7 f0 f1 f2 f3 f4 f5 f6 f7
        generalize ((((((((w5.setCell ⟨b, 0, none⟩ (.int .i64 x.kind)).setCell ⟨b, 1, none⟩ (.int .i64 x.r.p)).setCell ⟨b, 2, none⟩ (.int .i64 x.r.q)).setCell ⟨b, 3, none⟩ (.int .i64 x.r.a)).setCell ⟨b, 4, none⟩ (.string x.r.key)).setCell ⟨b, 5, none⟩ (.int .u32 (x.r.val : Nat))).setCell ⟨b, 6, none⟩ (.slice A1 n1 c1)).setCell ⟨b, 7, none⟩ (.int .i64 x.n)) = W at hfin hgr ⊢
        obtain ⟨⟨r0, r1, r2, r3, r4, r5, r6, r7⟩, _⟩ := box8 hfin
        have hWB : Below w.heap.size w W := HB5.out.grown hgr (by have := HB5.out.size; omega) (fun k hk => by simp only [Option.some.injEq] at hk; have := HBB.out; omega)
        exact bodyPost_ret (v := .tuple #[entV x (.slice A1 n1 c1), .int .i64 0]) (by simp [results, Try.results13, go_sem, r0, r1, r2, r3, r4, r5, r6, r7]) rfl
          ⟨x, A1, n1, c1, rfl, (fun y h => Option.some.inj h), (fun h => by cases h), HOP5.out.keep (fun k hk => hgr.block k hk.2 (by simp only [ne_eq, Option.some.injEq]; have := hk.1; omega)) (fun k hk => ⟨by have := hk.1; have := HBB.out; omega, Nat.lt_of_lt_of_le hk.2 hgr.size⟩), hWB⟩

end Go.Proofs.Ytffehnojcajhiaa.Wire.Entry

namespace Go.Proofs.Ytffehnojcajhiaa.Wire.Entry
open Go Go.RowKit Go.Proofs.Ytffehnojcajhiaa.Law

def sealE : Ent := ⟨2, zeroR, [], 3⟩
theorem sealE_wf : sealE.wf := ⟨⟨by decide, by decide⟩, ⟨⟨by decide, by decide⟩, ⟨by decide, by decide⟩, ⟨by decide, by decide⟩, by decide, by decide⟩, by simp [sealE], by simp [sealE], ⟨by decide, by decide⟩⟩
theorem sealE_enc : encE sealE = ([0, 4, 0, 6], 0) := by
  rw [encE_good (.inr (.inr (.inr ⟨.inl rfl, zeroR_bare, rfl, by decide⟩)))]
  show encN [iI 2, iI 3] = _
  decide +kernel
theorem sealE_str : str [0, 4, 0, 6] = ⟨#[0, 4, 0, 6]⟩ := rfl
theorem badT_dec : decE (sb ⟨#[0, 4, 0, 1]⟩) = none := by
  have h1 : decN (sb ⟨#[0, 4, 0, 1]⟩) = .ok [iI 2, iI (-1)] := by kernel_rfl
  unfold decE
  rw [h1]
  have h2 : rdE [iI 2, iI (-1)] = some ⟨2, zeroR, [], -1⟩ := by
    rw [rdE, if_neg (show ¬ (iI 2).n = 1 by decide), if_neg (show ¬ (iI 2).n = 3 by decide), if_pos (.inl rfl), rdNum]
    rfl
  dsimp only
  rw [h2]
  dsimp only
  rw [if_neg]
  rw [bP_false]
  · decide
  · intro h
    rcases h with ⟨h, _⟩ | ⟨h, _⟩ | ⟨h, _⟩ | ⟨_, _, _, h⟩
    · revert h; decide
    · revert h; decide
    · revert h; decide
    · revert h; decide

set_option maxRecDepth 100000 in
set_option maxHeartbeats 2000000 in
theorem known_calls (w : World) : Calls Try.prog 10 #[] w (RetB w true) := by
  have cE := encodeE_calls sealE sealE_wf (.slice none 0 0) w (OpsAt.nil _ _)
  rw [sealE_enc] at cE
  unfold RetText at cE
  rw [sealE_str] at cE
  have CE := Lib.hid cE
  have HD : Hid (∀ W, Calls Try.prog 13 #[.string ⟨#[0, 4, 0, 1]⟩] W (RetDec W none)) := Lib.hid fun W => by
    have := decodeE_calls ⟨#[0, 4, 0, 1]⟩ (by decide) W
    rwa [badT_dec] at this
  clear cE
  go_enter Try.func10, Try.ntmps10
  go_wp2_with fail
  refine CE.out.mono ?_
  rintro e w1 ⟨rfl, B1⟩
  have HB1 := Lib.hid B1
  have hs1 := B1.size
  clear B1 CE
  go_wp2_with fail
  refine (HD.out _).mono ?_
  rintro e w2 ⟨x, A, n, c, rfl, _, _, _, B2⟩
  have HB2 : Hid (∀ o, Below w.heap.size w (w2.alloc o)) := Lib.hid fun o => (HB1.out.trans (B2.mono hs1)).alloc (Nat.le_trans hs1 B2.size) o
  clear B2 HB1 HD
  go_wp2_with fail
  go_ret
  exact ⟨rfl, HB2.out _⟩

end Go.Proofs.Ytffehnojcajhiaa.Wire.Entry
