/-
  The walk of the law FrameRows: whatever the payloads and the place at which the last frame is torn, it returns true and nothing that lay has turned.
-/
import Derived.Test.YtmflcpkkeejjpaaDoorFrameRow
import Derived.Test.YtmflcpkkeejjpaaDoorFrameCutsLaw
import Derived.Test.YtmflcpkkeejjpaaDoorFrameFlipsLaw
import Derived.Sort.CutIn
import Derived.Test.YtmflcpkkeejjpaaDoorQuietRound
import Derived.Lib.SlBytesConst
import Derived.Lib.SmallJoins
namespace Go.Proofs.YtmflcpkkeejjpaaDoor.Frame
open Go.RowKit Go.Shelf Go.Proofs.YtmflcpkkeejjpaaDoor.Law Go.Proofs.YtmflcpkkeejjpaaDoor.Crc

attribute [local go_sem] Oper.semAt_some

/-- Of the first k payloads those that aren't too long. -/
def goods (pss : List (List Nat)) (k : Nat) : List (List Nat) := (pss.take k).filter fun p => decide (p.length ≤ 65536)
theorem goods_short (pss : List (List Nat)) (k : Nat) (h : k < pss.length) (hs : (pss.getD k []).length ≤ 65536) : goods pss (k + 1) = goods pss k ++ [pss.getD k []] := by
  unfold goods
  rw [take_getD pss k h, List.filter_append, List.filter_cons_of_pos (by simpa using hs)]; rfl
theorem goods_long (pss : List (List Nat)) (k : Nat) (h : k < pss.length) (hs : ¬ (pss.getD k []).length ≤ 65536) : goods pss (k + 1) = goods pss k := by
  unfold goods
  rw [take_getD pss k h, List.filter_append, List.filter_cons_of_neg (by simpa using hs), List.filter_nil, List.append_nil]
theorem goods_all (pss : List (List Nat)) (k : Nat) : shortAll (goods pss k) := by
  intro p hp
  have := (List.mem_filter.1 hp).2
  simpa using this
theorem goods_le (pss : List (List Nat)) (k : Nat) : (goods pss k).length ≤ k := by
  have h1 := List.length_filter_le (fun p => decide (List.length p ≤ 65536)) (pss.take k)
  have h2 := List.length_take_le k pss
  unfold goods
  omega
theorem goods_mono (pss : List (List Nat)) {j k : Nat} (h : j ≤ k) : ∃ r, goods pss k = goods pss j ++ r := by
  obtain ⟨d, rfl⟩ : ∃ d, k = j + d := ⟨k - j, by omega⟩
  exact ⟨((pss.drop j).take d).filter fun p => decide (p.length ≤ 65536), by unfold goods; rw [List.take_add, List.filter_append]⟩

theorem ownFrom_ex {β γ : Type} {B : Nat} {I : γ → β → World → Prop} (h : ∀ c, OwnFrom B (I c)) : OwnFrom B (fun s W => ∃ c, I c s W) :=
  fun s W W' row ⟨c, hs⟩ hg hr => ⟨c, h c s W W' row hs hg hr⟩

theorem below_drew {B : Nat} {a w : World} (h : Below B a w) (n : Nat) : Below B a (w.drewN n) := ⟨h.os, h.tape, h.output, h.size, h.block⟩

/-- The number in a box. -/
def boxNat (W : World) (B : Nat) : Nat := match W.cell? ⟨B, 0, none⟩ with
  | some (.int _ z) => z.toNat
  | _ => 0
theorem boxNat_eq {W : World} {B : Nat} {t : TypeId} {k : Nat} (h : Boxed W B t (.int .i64 (k : Nat))) : boxNat W B = k := by
  unfold boxNat; rw [h.cell]; simp

/-- Bytes that are laid as a literal, and marked behind their end. -/
theorem bytes_marked (w : World) (t : TypeId) (cs : Array Value) (fz : Nat × Nat) (bs : List Nat) (n : Nat) (hn : bs.length = n) (hcs : cs.toList = vals bs) (h : ∀ x ∈ bs, x < 256) :
    Bytes (w.heap.size + 1) (w.alloc (.cells cs t fz)) (.slice (some ⟨w.heap.size, 0, none⟩) n n) bs := by
  subst hn
  refine ⟨_, bs.length, rfl, Nat.le_refl _, (fun h => by cases h), h, fun _ => ⟨w.heap.size, 0, rfl, by omega, fun j hj => ?_⟩⟩
  rw [Nat.zero_add, World.cell?_alloc_mark, ← vals_get bs j hj, ← hcs, Array.getElem?_toList]

set_option maxRecDepth 100000 in
set_option maxHeartbeats 8000000 in
theorem frameRows_in (n : Nat) (hn : 7 ≤ n) (sv : Value) (pss : List (List Nat)) (z : Int) (w : World) (hT : Tab w) (hI : ByteRows w.heap.size w sv pss) :
    CallsIn Fence.wide n Tryd.prog 9 #[sv, .int .i64 z] w fun e W' => e = .returned (.bool true) ∧ Below w.heap.size w W' := by
  have h1 : 1 ≤ n := by omega
  obtain ⟨i0, hi, hz0, hz1, hz2⟩ := info_parts info_u8'
  obtain ⟨A, cap, rfl⟩ := hI.form
  obtain ⟨len, hlen⟩ : ∃ len, pss.length = len := ⟨_, rfl⟩
  rw [hlen] at hI ⊢
  have HL := Lib.hid hlen
  have HT := Lib.hid hT
  have HI := Lib.hid hI
  clear hlen hT hI
  refine callsIn_of_wp_marks Tryd.func9 rfl trivial ?_ rfl
  simp only [Tryd.ntmps9, List.size_toArray, List.length_cons, List.length_nil, Nat.reduceAdd, Nat.reduceSub, Array.replicate_succ, Array.replicate_zero, List.push_toArray, List.append_toArray, List.nil_append, List.cons_append]
  obtain ⟨w0, hw0⟩ : ∃ w0, (w.alloc (.cells #[.slice A len cap] 36)).alloc (.cells #[.bool false] 4) = w0 := ⟨_, rfl⟩
  have hs0 : w0.heap.size = w.heap.size + 2 := by rw [← hw0]; simp
  have hB0 : Below w.heap.size w w0 := by rw [← hw0]; exact ((Below.refl _ w).alloc (Nat.le_refl _) _).alloc (by simp) _
  have b2 : Boxed w0 w.heap.size 36 (.slice A len cap) := by rw [← hw0]; exact (Boxed.new w _ _).alloc _
  have b4 : Boxed w0 (w.heap.size + 1) 4 (.bool false) := by
    rw [← hw0]; have := Boxed.new (w.alloc (.cells #[.slice A len cap] 36)) 4 (.bool false); rwa [World.size_alloc] at this
  have ck := known_calls w0 (HT.out.below hB0)
  have CK := Lib.hid ck
  have HW0 := Lib.hid hw0
  have HS0 := Lib.hid hs0
  have HB2 := Lib.hid b2
  have HB4 := Lib.hid b4
  clear hw0 hs0 ck b2 b4
  gi_wp2_with fail
  rw [HW0.out]
  refine ⟨trivial, ?_⟩
  refine (callsIn_wide.2 CK.out).mono ?_
  rintro e w1 ⟨rfl, B1⟩
  gi_wp2_with fail
  gi_loopw [5, 6, 7] (fun v nn i wr => ∃ k : Nat, k ≤ len ∧ k ≤ 30 ∧ i = .int .i64 k ∧ nn = .int .i64 ((goods pss k).length : Nat) ∧ OwnB wr w0.heap.size 5 v (rowN (goods pss k)) ∧ Below w0.heap.size w0 wr) (fun _ _ i _ => 30 - (intOf i).toNat)
  case atStart => exact ⟨0, Nat.zero_le _, by omega, rfl, by simp [goods], ownB_nil _ _ _, B1⟩
  case round =>
    obtain ⟨k, hk, hk30, rfl, rfl, hO, hB⟩ := hrel
    have hgl := goods_le pss k
    have hRl := rowN_le _ (goods_all pss k)
    have hb2 : Boxed wr w.heap.size 36 (.slice A len cap) := (hB.block _ HB2.out.lt).trans HB2.out
    have hc2 := hb2.cell
    have hBw := hB0.trans (hB.mono hB0.size)
    have hs0 : w.heap.size + 2 ≤ w0.heap.size := by rw [HS0.out]; exact Nat.le_refl _
    by_cases hlt : k < len ∧ k < 30
    · obtain ⟨hlt, h30⟩ := hlt
      obtain ⟨b, off, rfl, hb, hcs⟩ := (HI.out.below hBw).cells (by omega)
      obtain ⟨vk, hck, hIk⟩ := hcs k hlt
      have cP := put_calls vk (pss.getD k []) wr (HT.out.below hBw) (hIk.more hBw.size)
      obtain ⟨Ak, ck, rfl⟩ := hIk.form
      have hkI : (k : Int) < (len : Int) := by omega
      have hk30I : (k : Int) < 30 := by omega
      by_cases hlong : (pss.getD k []).length ≤ 65536
      · have hg := goods_short pss k (by rw [HL.out]; exact hlt) hlong
        have hputn : putN (pss.getD k []) = (frameN (pss.getD k []), 0) := by unfold putN; rw [if_pos hlong]
        rw [hputn] at cP
        have hfl := frameN_length (pss.getD k [])
        have hsucc : rowN (goods pss (k + 1)) = rowN (goods pss k) ++ frameN (pss.getD k []) := by rw [hg, rowN_snoc]
        have hgl2 : (goods pss (k + 1)).length = (goods pss k).length + 1 := by rw [hg]; simp
        obtain ⟨R, hR⟩ : ∃ R, rowN (goods pss k) = R := ⟨_, rfl⟩
        rw [hR] at hsucc hO hRl
        obtain ⟨p, hp⟩ : ∃ p, pss.getD k [] = p := ⟨_, rfl⟩
        rw [hp] at hck cP hlong hsucc hfl
        obtain ⟨pl, hpl⟩ : ∃ pl, p.length = pl := ⟨_, rfl⟩
        rw [hpl] at hck cP hlong hfl
        obtain ⟨f, hf⟩ : ∃ f, frameN p = f := ⟨_, rfl⟩
        rw [hf] at cP hsucc hfl
        obtain ⟨gl, hgle⟩ : ∃ gl, (goods pss k).length = gl := ⟨_, rfl⟩
        rw [hgle] at hgl hgl2 hRl ⊢
        have hglI : (gl : Int) ≤ 30 := by omega
        have hroom : R.length + f.length ≤ 140737488355328 := by omega
        have CP := Lib.hid cP
        have HS := Lib.hid hsucc
        have HG2 := Lib.hid hgl2
        have HRM := Lib.hid hroom
        clear cP hsucc hg hgl2 hputn hcs hIk hR hp hpl hf hroom hfl hRl hgle hb2
        gi_wp2_with fail
        refine ⟨trivial, ?_⟩
        refine (callsIn_wide.2 CP.out).mono ?_
        rintro e w2 ⟨v2, rfl, O2, B2⟩
        have hO2 := hO.below B2
        have hB2 := hB.trans (B2.mono hB.size)
        have I2 := O2.bytes
        have hb2 := hB2.size
        have HO2 := Lib.hid hO2
        have HI2 := Lib.hid I2
        clear CP hO hB B2 O2 hO2 I2 hck hc2
        gi_wp2_with (gi_at_builtin; refine wpListIn_append_bytes rfl _ _ _ rfl Tryd.underlying22 hi hz0 hz1 hz2 rfl rfl rfl HO2.out HI2.out HRM.out hb2 ?next)
        case next =>
          intro v3 w3 O3 G3
          have hB3 := below_append hB2 G3 HO2.out (Nat.le_refl _) hb2
          rw [← HS.out] at O3
          have HO3 := Lib.hid O3
          clear G3 HO2 HI2 hB2 O3
          gi_wp2
          go_roundw
          case rel => exact ⟨k + 1, by omega, by omega, by go_num, by rw [HG2.out]; go_num, HO3.out, hB3⟩
          case measure => simp [intOf]; omega
      · have hg := goods_long pss k (by rw [HL.out]; exact hlt) hlong
        have hputn : putN (pss.getD k []) = ([], 2) := by unfold putN; rw [if_neg hlong]
        rw [hputn] at cP
        obtain ⟨p, hp⟩ : ∃ p, pss.getD k [] = p := ⟨_, rfl⟩
        rw [hp] at hck cP
        obtain ⟨pl, hpl⟩ : ∃ pl, p.length = pl := ⟨_, rfl⟩
        rw [hpl] at hck cP
        have CP := Lib.hid cP
        have HG := Lib.hid hg
        clear cP hg hputn hcs hIk hp hpl hlong hRl hb2 hgl
        gi_wp2_with fail
        refine ⟨trivial, ?_⟩
        refine (callsIn_wide.2 CP.out).mono ?_
        rintro e w2 ⟨v2, rfl, O2, B2⟩
        have hO2 := hO.below B2
        have hB2 := hB.trans (B2.mono hB.size)
        obtain ⟨A7, c7, rfl⟩ := O2.bytes.form
        have HO2 := Lib.hid hO2
        clear CP hO hB B2 O2 hO2 hck hc2
        gi_wp2
        go_roundw
        case rel => exact ⟨k + 1, by omega, by omega, by go_num, by rw [HG.out], by rw [HG.out]; exact HO2.out, hB2⟩
        case measure => simp [intOf]; omega
    · have hkk : k = len ∨ k = 30 := by omega
      obtain ⟨gs, hgs⟩ : ∃ gs, goods pss k = gs := ⟨_, rfl⟩
      have hsh := goods_all pss k
      rw [hgs] at hO hRl hgl hsh ⊢
      obtain ⟨gl, hgle⟩ : ∃ gl, gs.length = gl := ⟨_, rfl⟩
      rw [hgle] at hgl hRl ⊢
      obtain ⟨R, hR⟩ : ∃ R, rowN gs = R := ⟨_, rfl⟩
      rw [hR] at hO hRl
      have hbytes := hO.bytes
      obtain ⟨A2, c2, rfl⟩ := hbytes.form
      obtain ⟨rl, hrl⟩ : ∃ rl, R.length = rl := ⟨_, rfl⟩
      rw [hrl] at hO hRl hbytes ⊢
      have HGS := Lib.hid hgs
      have HSH := Lib.hid hsh
      have HGL := Lib.hid hgle
      have HR := Lib.hid hR
      have HRL := Lib.hid hrl
      have HO := Lib.hid hO
      have HB2r := Lib.hid hb2
      clear hgs hsh hgle hR hrl hO hbytes hlt hb2
      gi_upto_region 6 with fail
      gi_cut [26] from 19 (fun b wx => b = .bool false ∧ wx = wr)
      case first =>
        by_cases hkl : k < len
        · have hkI : (k : Int) < (len : Int) := by omega
          obtain rfl : k = 30 := by omega
          gi_wp2_with fail
          gi_meet
          exact ⟨rfl, rfl⟩
        · have hkI : (len : Int) ≤ (k : Int) := by omega
          gi_wp2_with fail
          gi_meet
          exact ⟨rfl, rfl⟩
      case rest =>
        obtain ⟨rfl, rfl⟩ := hcut
        obtain ⟨wa, hwa⟩ : ∃ wa, wc.alloc (.cells #[.int .u8 116, .int .u8 111, .int .u8 114, .int .u8 110] 5 (4, 5)) = wa := ⟨_, rfl⟩
        have hIt : Bytes wa.heap.size wa (.slice (some ⟨wc.heap.size, 0, none⟩) 4 4) [116, 111, 114, 110] := by
          have h := bytes_marked wc 5 #[.int .u8 116, .int .u8 111, .int .u8 114, .int .u8 110] (4, 5) [116, 111, 114, 110] 4 rfl rfl (by decide)
          rw [hwa] at h
          rwa [show wa.heap.size = wc.heap.size + 1 by rw [← hwa]; simp]
        have hBa : Below w0.heap.size w0 wa := by rw [← hwa]; exact hB.alloc hB.size _
        have hOa : OwnB wa w0.heap.size 5 (.slice A2 rl c2) R := by rw [← hwa]; exact HO.out.alloc _
        have hBaw := hB0.trans (hBa.mono hB0.size)
        have cP := put_calls (.slice (some ⟨wc.heap.size, 0, none⟩) 4 4) [116, 111, 114, 110] wa (HT.out.below hBaw) hIt
        have hputn : putN [116, 111, 114, 110] = (frameN [116, 111, 114, 110], 0) := by unfold putN; rw [if_pos (by decide)]
        rw [hputn] at cP
        have hfl : (frameN [116, 111, 114, 110]).length = 16 := by rw [frameN_length]; rfl
        obtain ⟨FT, hFT⟩ : ∃ FT, frameN [116, 111, 114, 110] = FT := ⟨_, rfl⟩
        rw [hFT] at cP hfl
        have CP := Lib.hid cP
        have HWA := Lib.hid hwa
        have HOa := Lib.hid hOa
        have HFT := Lib.hid hFT
        have HFL := Lib.hid hfl
        clear cP hwa hOa hFT hfl hputn hIt hc2 HO
        have kc := fun (w : World) (C : Array Value) (n c : Nat) => Lib.run_convert_bytes_const (P := Tryd.prog) w 22 5 C n c Tryd.underlying22 Tryd.underlying5
        gi_wp2_with fail
        rw [HWA.out]
        clear kc
        refine ⟨trivial, ?_⟩
        refine (callsIn_wide.2 CP.out).mono ?_
        rintro e w5 ⟨v5, rfl, O5, B5⟩
        obtain ⟨g, cf, rfl, hg1, hg2⟩ := O5.form (by rw [HFL.out]; decide)
        have hcf := O5.capOk rfl
        have hOb := HOa.out.below B5
        have hB5 := hBa.trans (B5.mono hBa.size)
        rw [HFL.out] at O5 hcf ⊢
        obtain ⟨s, hs, hsz⟩ := place_in z 15 (by decide) (by decide)
        have hw1 : 0 ≤ wrap64 ((IntKind.u64.wrap z).tmod 15) := by
          have : wrap64 ((IntKind.u64.wrap z).tmod 15) = (s : Int) := hsz
          omega
        have hw2 : wrap64 ((IntKind.u64.wrap z).tmod 15) ≤ 14 := by
          have : wrap64 ((IntKind.u64.wrap z).tmod 15) = (s : Int) := hsz
          omega
        have hw3 : 1 + wrap64 ((IntKind.u64.wrap z).tmod 15) ≤ (cf : Int) := by omega
        have hF := O5.front (1 + wrap64 ((IntKind.u64.wrap z).tmod 15)).toNat (by omega) HFL.out
        have hroom : R.length + (FT.take (1 + wrap64 ((IntKind.u64.wrap z).tmod 15)).toNat).length ≤ 140737488355328 := by
          rw [HRL.out, List.length_take, HFL.out]; omega
        have hb5 := hB5.size
        have HSZ := Lib.hid hsz
        have HF := Lib.hid hF
        have HOb := Lib.hid hOb
        have HRM := Lib.hid hroom
        clear hsz hF hOb hroom O5 CP B5
        gi_wp2_with (gi_at_builtin; refine wpListIn_append_bytes rfl _ _ _ rfl Tryd.underlying22 hi hz0 hz1 hz2 rfl rfl rfl HOb.out HF.out HRM.out hb5 ?next)
        case next =>
          intro v6 w6 O6 G6
          have hB6 := below_append hB5 G6 HOb.out (Nat.le_refl _) hb5
          have hM : ∃ M : Nat, (1 + wrap64 ((IntKind.u64.wrap z).tmod 15)).toNat = M ∧ M ≤ 15 := ⟨_, rfl, by omega⟩
          obtain ⟨M, hMe, hM15⟩ := hM
          rw [hMe] at O6
          have htold : Told (R ++ FT.take M) gs rl ∧ Done (R ++ FT.take M) rl := by
            rw [← HRL.out, ← HR.out]
            refine ⟨told_row _ _ HSH.out, done_row fun at0 => ?_⟩
            rw [← HFT.out]
            exact readN_part _ (by decide) M (by show M < 12 + 4; omega) at0
          have hLl : (R ++ FT.take M).length ≤ 5000000 := by
            rw [List.length_append, HRL.out, List.length_take]; omega
          obtain ⟨L, hL⟩ : ∃ L, R ++ FT.take M = L := ⟨_, rfl⟩
          rw [hL] at O6 htold hLl
          have hby6 := O6.bytes
          obtain ⟨A8, c8, rfl⟩ := hby6.form
          obtain ⟨ll, hll⟩ : ∃ ll, L.length = ll := ⟨_, rfl⟩
          rw [hll] at hby6 hLl ⊢
          have hB6w := hB0.trans (hB6.mono hB0.size)
          have cC := cut_calls (.slice A8 ll c8) L (by rw [hll]; omega) w6 (HT.out.below hB6w) hby6
          have CC := Lib.hid cC
          have HLL := Lib.hid hll
          have HTOLD := Lib.hid htold
          have HBY6 := Lib.hid hby6
          have HME := Lib.hid hMe
          clear cC hll htold hby6 hMe hL O6 G6 hB5 HF HOb HRM
          gi_wp2_with fail
          refine ⟨trivial, ?_⟩
          refine (callsIn_wide.2 CC.out).mono ?_
          rintro e w7 ⟨v7, ys, k7, rfl, hTo7, hrow7, -, B7⟩
          obtain ⟨hys, rfl⟩ := told_all hTo7.1 hTo7.2 HTOLD.out.1 HTOLD.out.2
          have hyl : ys.length = gl := by
            have h := congrArg List.length hys
            rwa [bytesOf_length, HGL.out] at h
          obtain ⟨A9, c9, rfl⟩ := row_form hrow7
          rw [hyl]
          have hI7 := HBY6.out.on B7
          have hB7 := hB6.trans (B7.mono hB6.size)
          obtain ⟨w8, hw8⟩ : ∃ w8, w7.alloc (.cells #[.int .i64 0] 3) = w8 := ⟨_, rfl⟩
          have hs8 : w8.heap.size = w7.heap.size + 1 := by rw [← hw8]; simp
          have hB78 : Below w7.heap.size w7 w8 := by rw [← hw8]; exact (Below.refl _ _).alloc (Nat.le_refl _) _
          have f15 : Boxed w8 w7.heap.size 3 (.int .i64 0) := by rw [← hw8]; exact Boxed.new w7 _ _
          have ca := all_in (n - 1) (by omega) (.slice A8 ll c8) L (by rw [HLL.out]; omega) w8 (hI7.on hB78)
          have CA := Lib.hid ca
          have HW8 := Lib.hid hw8
          have HS8 := Lib.hid hs8
          have HF15 := Lib.hid f15
          clear ca hw8 hs8 f15 hI7 hys hyl hTo7 hrow7 CC B7
          gi_wp2_with fail
          rw [HW8.out]
          refine ⟨trivial, ?_⟩
          refine CA.out.mono ?_
          rintro e w9 ⟨v9, Bx, rfl, hbx, hO9, hlo, B9⟩
          have hs89 := B9.size
          have hs8 := HS8.out
          have hs67 := hB7.size
          have hs02 := HS0.out
          have hB8w : Below w.heap.size w w8 := hB0.trans ((hB7.trans (hB78.mono (by omega))).mono (by omega))
          have hB9w := hB8w.trans (B9.mono hB8w.size)
          have hRd : Reads w7.heap.size w8.heap.size w9.heap.size Bx v9 L w9 := ⟨HT.out.below hB9w, hbx, hO9, Nat.le_refl _, by have := HT.out.lt; omega, hlo, hbx.lt, fun k hk => (hO9.1.lt k hk).2⟩
          have g2 : Boxed w9 w.heap.size 36 (.slice A len cap) := (B9.block _ (by omega)).trans ((hB78.block _ (by omega)).trans ((hB7.block _ HB2.out.lt).trans HB2.out))
          have g4 : Boxed w9 (w.heap.size + 1) 4 (.bool false) := (B9.block _ (by omega)).trans ((hB78.block _ (by omega)).trans ((hB7.block _ HB4.out.lt).trans HB4.out))
          have g15 : Boxed w9 w7.heap.size 3 (.int .i64 0) := (B9.block _ HF15.out.lt).trans HF15.out
          have HRd := Lib.hid hRd
          have HG2 := Lib.hid g2
          have HG4 := Lib.hid g4
          have HG15 := Lib.hid g15
          clear hRd g2 g4 g15 hs8 hs02 CA hbx hO9 HF15
          gi_wp2_with fail
          have hs8 := HS8.out
          refine wpIn_rangeFunc_told rfl h1 (gf := 33) (lb := #[.pointer (some ⟨Bx, 0, none⟩)]) rfl trivial (enters_of Tryd.func33 (by kernel_rfl) rfl)
            (all_stops (n - 1) (by omega) w7.heap.size w8.heap.size Bx v9 L (by rw [HLL.out]; omega) w9 HRd.out) Keeps.trans (keeps_b (by omega) (Nat.le_refl _)) (Below.refl _ _) (fun _ => rfl)
            (fun pre W => ∃ kk : Nat, (kk ≤ k ∧ goods pss kk = bytesOf pre) ∧ (Boxed W w7.heap.size 3 (.int .i64 (kk : Nat)) ∧ Below w7.heap.size w9 W))
            (fun _ _ _ => False)
            (ownFrom_ex fun kk => OwnFrom.and (ownFrom_pure _ (fun pre : List Piece => kk ≤ k ∧ goods pss kk = bytesOf pre)) (OwnFrom.and ((boxed_own w7.heap.size 3 (fun _ : List Piece => .int .i64 (kk : Nat))).from _) (ownFrom_below (by omega) (by omega))))
            (fun _ _ _ _ _ hs _ _ => hs)
            (fun x => Own.from (fun _ A B row hs hg hr => fine_own w9.heap.size x A B row hs hg hr) _)
            ⟨0, ⟨Nat.zero_le _, by simp [goods, bytesOf]⟩, HG15.out, Below.refl _ _⟩
            (fun x => { tmps := List.toArray ((Value.slice A len cap) :: (Value.int IntKind.i64 z) :: (Value.pointer (some ⟨w.heap.size, 0, none⟩)) :: undef :: (Value.pointer (some ⟨w.heap.size + 1, 0, none⟩)) :: (Value.slice A8 ll c8) :: (Value.int IntKind.i64 ↑gl) :: (Value.int IntKind.i64 ↑k) :: u8 :: u9 :: (Value.int IntKind.i64 ↑k7) :: (Value.slice (some ⟨g, 0, none⟩) 16 cf) :: (Value.int IntKind.i64 0) :: (Value.slice A9 gl c9) :: (Value.int IntKind.i64 ↑k7) :: (Value.pointer (some ⟨w7.heap.size, 0, none⟩)) :: x.1 :: (Value.bool true) :: (Value.bool false) :: u19 :: u20 :: u21 :: u22 :: u23 :: u24 :: u25 :: (Value.bool false) :: u27 :: u28 :: u29 :: u30 :: u31 :: u32 :: u33 :: u34 :: u35 :: u36 :: u37 :: u38 :: u39 :: u40 :: u41 :: u42 :: u43 :: u44 :: u45 :: u46 :: (Value.slice A2 k7 c2) :: (Value.int IntKind.i64 ↑k7) :: (Value.tuple #[Value.slice (some ⟨g, 0, none⟩) 16 cf, Value.int IntKind.i64 0]) :: (Value.slice (some ⟨wc.heap.size, 0, none⟩) 4 4) :: (Value.slice (some ⟨wc.heap.size, 0, none⟩) 4 4) :: (Value.tuple #[Value.slice (some ⟨g, 0, none⟩) 16 cf, Value.int IntKind.i64 0]) :: (Value.slice (some ⟨g, 0, none⟩) 16 cf) :: (Value.int IntKind.i64 0) :: (Value.slice A2 k7 c2) :: (Value.slice (some ⟨g, 0, none⟩) 16 cf) :: (Value.int IntKind.i64 z) :: (Value.int IntKind.u64 (IntKind.u64.wrap z)) :: (Value.slice (some ⟨g, 0, none⟩) 16 cf) :: (Value.int IntKind.i64 16) :: (Value.int IntKind.i64 15) :: (Value.int IntKind.u64 15) :: (Value.int IntKind.u64 ((IntKind.u64.wrap z).tmod 15)) :: (Value.int IntKind.i64 (wrap64 ((IntKind.u64.wrap z).tmod 15))) :: (Value.int IntKind.i64 (1 + wrap64 ((IntKind.u64.wrap z).tmod 15))) :: (Value.slice (some ⟨g, 0, none⟩) (1 + wrap64 ((IntKind.u64.wrap z).tmod 15)).toNat cf) :: (Value.slice A8 ll c8) :: (Value.tuple #[Value.slice A9 gl c9, Value.int IntKind.i64 ↑k7]) :: (Value.slice A8 ll c8) :: (Value.tuple #[Value.slice A9 gl c9, Value.int IntKind.i64 ↑k7]) :: (Value.slice A9 gl c9) :: (Value.int IntKind.i64 ↑k7) :: (Value.slice A9 gl c9) :: (Value.int IntKind.i64 ↑gl) :: (Value.int IntKind.i64 ↑gl) :: (Value.bool false) :: (Value.bool false) :: (Value.int IntKind.i64 ↑k7) :: (Value.int IntKind.i64 ↑k7) :: (Value.bool false) :: (Value.bool false) :: (Value.slice A8 ll c8) :: (Value.func (.func 33) #[] #[.pointer (some ⟨Bx, 0, none⟩)]) :: x.1 :: u85 :: u86 :: u87 :: u88 :: u89 :: u90 :: u91 :: u92 :: u93 :: u94 :: u95 :: u96 :: u97 :: u98 :: u99 :: u100 :: u101 :: u102 :: u103 :: u104 :: u105 :: u106 :: u107 :: u108 :: u109 :: u110 :: u111 :: u112 :: u113 :: u114 :: []), defers := [] }) ?assign ?body ?done ?stop
          case assign =>
            intro l x W K hK
            gi_wp2
            exact hK
          case body =>
            rintro l pre ⟨xv, xb⟩ W ⟨kk, ⟨hkk, hgk⟩, h15, hBW⟩ ⟨hx, hxl⟩ ⟨kt, hTok⟩ -
            have hxl : xb.length ≤ 65536 := hxl
            have hdn := told_done hTok HTOLD.out.1 HTOLD.out.2
            rw [bytesOf_snoc] at hdn
            obtain ⟨hle2, hpre⟩ := hdn
            have hlt : ∀ j, j ≤ k → goods pss j = bytesOf pre → j < k := by
              intro j hj hgj
              refine Nat.lt_of_le_of_ne hj fun e => ?_
              rw [e, HGS.out] at hgj
              rw [hgj] at hle2
              simp only [List.length_append, List.length_cons, List.length_nil] at hle2
              omega
            have hnext : ∀ j, j < k → goods pss j = bytesOf pre → (pss.getD j []).length ≤ 65536 → pss.getD j [] = xb ∧ goods pss (j + 1) = bytesOf (pre ++ [(xv, xb)]) := by
              intro j hj hgj hsh
              have h2 := goods_short pss j (by rw [HL.out]; omega) hsh
              obtain ⟨r, hr⟩ := goods_mono pss (show j + 1 ≤ k from hj)
              rw [HGS.out, h2, hgj] at hr
              rw [hr, List.take_append_of_le_length (by simp), List.take_of_length_le (by simp)] at hpre
              have h3 := (List.append_inj hpre rfl).2
              simp only [List.cons.injEq, and_true] at h3
              refine ⟨h3.symm, ?_⟩
              rw [h2, hgj, ← h3, bytesOf_snoc]
            have hbx := (show OwnB W w9.heap.size 5 xv xb from hx).bytes
            obtain ⟨A6, c6, rfl⟩ := hbx.form
            have hcv := fun q => run_string_bytes (P := Tryd.prog) (W.drewN q) Tryd.underlying22 Tryd.underlying5 Tryd.underlying9 (show Bytes W.heap.size (W.drewN q) _ xb from hbx)
            have hB9 : Below w.heap.size w W := hB9w.trans (hBW.mono (by omega))
            have HLT := Lib.hid hlt
            have HNX := Lib.hid hnext
            have HBX := Lib.hid hbx
            have HX := Lib.hid hx
            have hn3 : 1 ≤ n - 1 - 1 := by omega
            obtain ⟨xl, hxle⟩ : ∃ xl, xb.length = xl := ⟨_, rfl⟩
            rw [hxle] at HX HBX hcv HNX hxl ⊢
            have HXL := Lib.hid hxle
            clear hlt hnext hbx hx hTok hle2 hpre hxle hcv
            gi_wp2_with fail
            gi_loopw [85] (fun _ wr => ∃ j : Nat, (j ≤ k ∧ goods pss j = bytesOf pre) ∧ Boxed wr w7.heap.size 3 (.int .i64 (j : Nat)) ∧ Below w7.heap.size w9 wr ∧ KeepsOthers W wr ∧ Keeps w7.heap.size w8.heap.size w9.heap.size W wr ∧ OwnB wr w9.heap.size 5 (.slice A6 xl c6) xb) (fun _ wr => len - boxNat wr w7.heap.size)
            case atStart => exact ⟨kk, ⟨hkk, hgk⟩, h15, hBW, KeepsOthers.refl _, Keeps.refl _ _ _ _, HX.out⟩
            case round =>
              obtain ⟨j, ⟨hj, hgj⟩, hbj, hBj, hKO, hKp, hOx⟩ := hrel
              have hjk := HLT.out j hj hgj
              have hgen := HNX.out j hjk hgj
              have hBr : Below w.heap.size w wr := hB9w.trans (hBj.mono (by omega))
              have hb2r : Boxed wr w.heap.size 36 (.slice A len cap) := (hBj.block _ (by omega)).trans HG2.out
              obtain ⟨b, off, rfl, hb, hcs⟩ := (HI.out.below hBr).cells (by omega)
              obtain ⟨vk, hck, hIk⟩ := hcs j (by omega)
              have hc15 := hbj.cell
              have hf15 := hbj.frozen
              have hc2r := hb2r.cell
              have hjI : (j : Int) < (len : Int) := by omega
              have hjlen : j < len := by omega
              by_cases hlong : (pss.getD j []).length ≤ 65536
              · obtain ⟨hxe, hg2⟩ := hgen hlong
                rw [hxe] at hIk
                have hcv := fun q => run_string_bytes (P := Tryd.prog) (wr.drewN q) Tryd.underlying22 Tryd.underlying5 Tryd.underlying9 (show Bytes wr.heap.size (wr.drewN q) _ xb from hOx.bytes)
                have hcw := fun q => run_string_bytes (P := Tryd.prog) (wr.drewN q) Tryd.underlying22 Tryd.underlying5 Tryd.underlying9 (show Bytes w.heap.size (wr.drewN q) vk xb from hIk)
                obtain ⟨A5, c5, rfl⟩ := hIk.form
                rw [HXL.out] at hck hcw
                obtain ⟨S, hS⟩ : ∃ S, str xb = S := ⟨_, rfl⟩
                rw [hS] at hcv hcw
                have hxlI : (xl : Int) ≤ 65536 := by omega
                have hnN : ¬ len ≤ j := by omega
                have hnI : ¬ (len : Int) ≤ (j : Int) := by omega
                have hnD : decide ((len : Int) ≤ (j : Int)) = false := by simp only [decide_eq_false_iff_not]; omega
                have HG2' := Lib.hid hg2
                clear hgen hcs hIk hxe hlong hg2 hgj hS
                have hmix : Tryd.prog.follows .mixedOrders = true := by kernel_rfl
                gi_wp2
                refine wpIn_region_round_lit (by kernel_rfl) (by kernel_rfl) (by kernel_rfl) ?_
                repeat (gi_big_quiet_step (fail))
                refine wpQuietIn_nil ?_
                intro _ hw'
                obtain ⟨nq, hw''⟩ := hw'
                subst hw''
                gi_wp2
                have hK1 : KeepsOthers wr (wr.drewN nq) := ⟨Nat.le_refl _, fun _ _ h _ => h⟩
                have hK2 : Keeps w7.heap.size w8.heap.size w9.heap.size wr (wr.drewN nq) := ⟨below_drew (Below.refl _ _) nq, fun _ _ _ => rfl⟩
                have hb1 : Boxed (wr.drewN nq) w7.heap.size 3 (.int .i64 (j : Nat)) := hbj
                refine ⟨hKO.trans (hK1.trans (KeepsOthers.setCell _ _ _)), hKp.trans (hK2.trans (Keeps.setBox _ (Nat.le_refl _) (by omega) _)), j + 1, ⟨by omega, HG2'.out⟩, ?_, (below_drew hBj nq).setCell (p := ⟨w7.heap.size, 0, none⟩) (Nat.le_refl _) _⟩
                have h := hb1.set (.int .i64 ((j : Int) + 1))
                simpa using h
              · have hg2 := goods_long pss j (by rw [HL.out]; exact hjlen) hlong
                obtain ⟨A5, c5, rfl⟩ := hIk.form
                obtain ⟨pl, hpl⟩ : ∃ pl, (pss.getD j []).length = pl := ⟨_, rfl⟩
                rw [hpl] at hck hlong
                have hplI : 65536 < (pl : Int) := by omega
                have HG2' := Lib.hid hg2
                have HGJ := Lib.hid hgj
                clear hgen hcs hIk hpl hlong hg2 hgj
                gi_wp2
                go_roundw
                case rel => exact ⟨j + 1, ⟨by omega, by rw [HG2'.out]; exact HGJ.out⟩, by have h := hbj.set (.int .i64 ((j : Int) + 1)); simpa using h, hBj.setCell (p := ⟨w7.heap.size, 0, none⟩) (Nat.le_refl _) _, hKO.trans (KeepsOthers.setCell _ _ _), hKp.trans (Keeps.setBox _ (Nat.le_refl _) (by omega) _), hOx.kept (grownBy_setCell' _ _ _) (hOx.cells_of hbj (by decide))⟩
                case measure =>
                  have h := hbj.set (.int .i64 ((j : Int) + 1))
                  rw [boxNat_eq hbj, boxNat_eq (k := j + 1) (by simpa using h)]
                  omega
          case done =>
            rintro D xs W hD ⟨k3, hT3, hD3⟩ ⟨kk, -, h15, hBW⟩ hK
            have h4W : Boxed W (w.heap.size + 1) 4 (.bool false) := (hBW.block _ (by omega)).trans HG4.out
            have hc4 := h4W.cell
            have hf4 := h4W.frozen
            have H4 := Lib.hid h4W
            have HK := Lib.hid hK
            clear hT3 hD3 h15 h4W hK
            gi_wp2
            have hK' := (KeepsOthers.setCell W ⟨w.heap.size + 1, 0, none⟩ (.bool true)).same D _ HK.out rfl
            refine ⟨by simp, .inl ⟨_, _, rfl, run_takeDeferred hK', ?_⟩⟩
            have hc5 := cell_kept (H4.out.set (.bool true)).cell (grownBy_putObj' _ D (.deferred none)) (fun r e => by cases e; exact ⟨_, hK', rfl⟩)
            have hBW2 : Below w.heap.size w W := hB9w.trans (hBW.mono (by omega))
            refine ⟨.bool true, ?_, rfl, (hBW2.setCell (p := ⟨w.heap.size + 1, 0, none⟩) (by simp) _).trans (belowK_b (w := w) (Nat.le_refl _) _ D _ _ (by omega) hK' rfl rfl)⟩
            simp [results, Tryd.f9, go_sem, hc5]
          case stop =>
            rintro D c pre W _ _ h _
            exact h.elim

theorem frameRows_law (sv : Value) (pss : List (List Nat)) (z : Int) (w : World) (hT : Tab w) (hI : ByteRows w.heap.size w sv pss) :
    Calls Tryd.prog 9 #[sv, .int .i64 z] w fun e W' => e = .returned (.bool true) ∧ Below w.heap.size w W' :=
  callsIn_wide.1 (frameRows_in 9 (by omega) sv pss z w hT hI)

end Go.Proofs.YtmflcpkkeejjpaaDoor.Frame
