/-
  The walk of the law MailNone: whatever the messages and picks, it returns true and nothing that lay has turned.
-/
import Derived.Test.YtjcgkjjomiapoaaMailRefSame
import Derived.Test.YtjcgkjjomiapoaaMailOrderLaw
import Derived.Lib.QuietBelow
namespace Go.Proofs.Ytjcgkjjomiapoaa.Mail
open Go Go.RowKit Go.ChangeShapes Go.WideShapes Go.Deep Go.Proofs.Ytjcgkjjomiapoaa.Law Go.Sort

def isMail (t : TypeId) : Bool := t == 34

def flatK : List (Mail3 × Value) → List Value
  | [] => []
  | p :: r => .int .i64 p.1.src :: .int .i64 p.1.dst :: p.2 :: flatK r
theorem flatK_length : ∀ l : List (Mail3 × Value), (flatK l).length = l.length * 3
  | [] => rfl
  | p :: r => by simp only [flatK, List.length_cons, flatK_length r]; omega
theorem flatK_append : ∀ a b : List (Mail3 × Value), flatK (a ++ b) = flatK a ++ flatK b
  | [], b => by simp [flatK]
  | x :: a, b => by simp only [List.cons_append, flatK, flatK_append a b]
theorem flatK_get : ∀ {l : List (Mail3 × Value)} {k : Nat} {p : Mail3 × Value}, l[k]? = some p →
    (flatK l)[k * 3]? = some (.int .i64 p.1.src) ∧ (flatK l)[k * 3 + 1]? = some (.int .i64 p.1.dst) ∧ (flatK l)[k * 3 + 2]? = some p.2
  | [], k, p, h => by simp at h
  | q :: r, 0, p, h => by
    simp only [List.getElem?_cons_zero, Option.some.injEq] at h
    subst h
    exact ⟨rfl, rfl, rfl⟩
  | q :: r, k + 1, p, h => by
    have ih := flatK_get (l := r) (k := k) (p := p) (by simpa using h)
    rw [show (k + 1) * 3 = k * 3 + 3 by omega]
    exact ih

/-- The messages that were sent, as the law keeps them. -/
def KeptM (n₀ : Nat) (W : World) (base : Nat) (v : Value) (ks : List Mail3) : Prop :=
  ∃ ps : List (Mail3 × Value), ps.map (·.1) = ks ∧ W.ownsRow base 34 3 v ks.length (flatK ps) ∧ ∀ p ∈ ps, Bytes n₀ W p.2 p.1.bs

theorem KeptM.nil (n₀ : Nat) (W : World) (base : Nat) : KeptM n₀ W base (.slice none 0 0) [] := ⟨[], rfl, World.ownsRow_nil _ _ _ _, by simp⟩
theorem KeptM.frm {S : TypeId → Bool} {B n₀ : Nat} {W W' : World} {base : Nat} {v : Value} {ks : List Mail3} (h : KeptM n₀ W base v ks) (hF : Frm S B W W') (hS : S 34 = false) (hB : Below n₀ W W') : KeptM n₀ W' base v ks := by
  obtain ⟨ps, h0, h1, h2⟩ := h
  exact ⟨ps, h0, row_frm h1 hF hS, fun p hp => (h2 p hp).below hB⟩
theorem KeptM.form {n₀ : Nat} {W : World} {base : Nat} {v : Value} {ks : List Mail3} (h : KeptM n₀ W base v ks) : ∃ A c, v = .slice A ks.length c := by
  obtain ⟨ps, _, h1, _⟩ := h
  exact row_form h1
theorem KeptM.lt {n₀ : Nat} {W : World} {base : Nat} {v : Value} {ks : List Mail3} (h : KeptM n₀ W base v ks) {q : Mail3} (hq : q ∈ ks) : ∀ x ∈ q.bs, x < 256 := by
  obtain ⟨ps, h0, _, h2⟩ := h
  subst h0
  obtain ⟨p, hp, rfl⟩ := List.mem_map.1 hq
  exact (h2 p hp).lt
theorem KeptM.cell {n₀ : Nat} {W : World} {base n cap : Nat} {A : Option Addr} {ks : List Mail3} (h : KeptM n₀ W base (.slice A n cap) ks) {j : Nat} {m : Mail3} (hm : ks[j]? = some m) :
    ∃ g u, A = some ⟨g, 0, none⟩ ∧ base ≤ g ∧ g < W.heap.size ∧ W.cell? ⟨g, j * 3, none⟩ = some (.int .i64 m.src) ∧ W.cell? ⟨g, j * 3 + 1, none⟩ = some (.int .i64 m.dst) ∧ W.cell? ⟨g, j * 3 + 2, none⟩ = some u ∧ Bytes n₀ W u m.bs := by
  obtain ⟨ps, h0, h1, h2⟩ := h
  have hj : j < ks.length := (List.getElem?_eq_some_iff.1 hm).1
  subst h0
  rw [List.getElem?_map] at hm
  obtain ⟨p, hp, rfl⟩ := Option.map_eq_some_iff.1 hm
  have hlt := h1.lt
  have hc := fun (g : Nat) (hg : (Value.slice A n cap).ownBlock = some g) => h1.cells hg
  obtain ⟨g0, g1, g2⟩ := flatK_get hp
  rcases h1.2 with ⟨hv, h0⟩ | ⟨g, cap', cur, hv, hb, hg, _⟩
  · omega
  · simp only [Value.slice.injEq] at hv
    obtain ⟨rfl, rfl, rfl⟩ := hv
    have c0 := hc g rfl _ _ g0
    have c1 := hc g rfl _ _ g1
    have c2 := hc g rfl _ _ g2
    rw [Addr.add_lit, Nat.zero_add] at c0 c1 c2
    exact ⟨g, p.2, rfl, hb, (hlt g rfl).2, c0, c1, c2, h2 p (List.mem_of_getElem? hp)⟩

theorem info_mail : (Try.prog.info? 34).map (fun i => (i.zero, i.size, i.bytes)) = some (some (.agg #[.int .i64 0, .int .i64 0, .slice none 0 0]), 3, 40) := by kernel_rfl

/-- One more is kept. -/
theorem KeptM.append {n₀ : Nat} {W : World} {base : Nat} {v : Value} {ks : List Mail3} (h : KeptM n₀ W base v ks) (hb : n₀ ≤ base) (hbase : base ≤ W.heap.size) (ty : TypeId) (b : Nat) (u : Value) (m : Mail3)
    (hu : W.heap[b]? = some (.cells #[.int .i64 m.src, .int .i64 m.dst, u] 34 (0, 0))) (hI : Bytes n₀ W u m.bs) (hroom : ks.length ≤ 100) :
    ∃ A' c' W', (Builtin.append_ #[29, 29] ty #[v, .slice (some ⟨b, 0, none⟩) 1 1]).run Try.prog W = .ok (.slice A' (ks.length + 1) c') W' ∧ KeptM n₀ W' base (.slice A' (ks.length + 1) c') (ks ++ [m]) ∧ Frm isMail base W W' := by
  obtain ⟨i0, hi, hz0, hz1, hz2⟩ := info_parts info_mail
  obtain ⟨A, cap, rfl, h256, hA, h0, hc⟩ := id hI
  obtain ⟨ps, hps, h1, h2⟩ := h
  obtain ⟨v', W', hrun, h3, h4, _, _⟩ := run_append_own_at (P := Try.prog) W base 29 ty 34 i0 _ 3 40 Try.underlying29 hi hz0 hz1 hz2 rfl (by decide) v ks.length (flatK ps) h1 ⟨b, 0, none⟩ 1 1 (flatK [(m, .slice A m.bs.length cap)]) rfl
    (fun j w hw => by
      rw [Addr.add_lit]
      match j, hw with
      | 0, hw => simp [flatK] at hw; subst hw; simp [World.cell?, hu]
      | 1, hw => simp [flatK] at hw; subst hw; simp [World.cell?, hu]
      | 2, hw => simp [flatK] at hw; subst hw; simp [World.cell?, hu]
      | j + 3, hw => simp [flatK] at hw) (by
      intro x hx
      simp only [flatK, List.mem_cons, List.not_mem_nil, or_false] at hx
      rcases hx with rfl | rfl | rfl <;> rfl) (by simp only [maxLen]; omega) (by omega) hbase
  obtain ⟨A', c', rfl⟩ := row_form h3
  have hF : Frm isMail base W W' := (Frm.refl isMail base W).grown_row h4 h1 (by decide) (Nat.le_refl _) hbase
  refine ⟨A', c', W', hrun, ⟨ps ++ [(m, .slice A m.bs.length cap)], by rw [List.map_append, hps]; rfl, by rw [List.length_append, flatK_append]; exact h3, fun p hp => ?_⟩, hF⟩
  rcases List.mem_append.1 hp with hp | hp
  · exact (h2 p hp).below (hF.low.mono hb)
  · simp only [List.mem_singleton] at hp
    subst hp
    exact hI.below (hF.low.mono hb)

theorem MailIs.on {A B : World} {v : Value} {m : Mail3} (h : MailIs A.heap.size A v m) (hB : Below A.heap.size A B) : MailIs B.heap.size B v m := by
  obtain ⟨u, rfl, hu⟩ := h
  exact ⟨u, rfl, hu.on hB⟩

/-- A slice of ints that came in. -/
def Ints (n₀ : Nat) (W : World) (v : Value) (zs : List Int) : Prop :=
  ∃ A cap, v = .slice A zs.length cap ∧ (0 < zs.length → ∃ b off, A = some ⟨b, off, none⟩ ∧ b < n₀ ∧ ∀ j, j < zs.length → W.cell? ⟨b, off + j, none⟩ = some (.int .i64 (zs.getD j 0)))
theorem Ints.form {n₀ : Nat} {W : World} {v : Value} {zs : List Int} : Ints n₀ W v zs → ∃ A cap, v = .slice A zs.length cap
  | ⟨A, cap, e, _⟩ => ⟨A, cap, e⟩
theorem Ints.cells {n₀ len cap : Nat} {W : World} {A : Option Addr} {zs : List Int} (h : Ints n₀ W (.slice A len cap) zs) (hp : 0 < len) :
    ∃ b off, A = some ⟨b, off, none⟩ ∧ b < n₀ ∧ ∀ j, j < len → W.cell? ⟨b, off + j, none⟩ = some (.int .i64 (zs.getD j 0)) := by
  obtain ⟨A', cap', e, hc⟩ := h
  simp only [Value.slice.injEq] at e
  obtain ⟨rfl, rfl, rfl⟩ := e
  exact hc hp
theorem open_ints_arg {H : Type} {enc : TypeId × Value → H} {P : Program} {t e : TypeId} {base : Nat} {W : World} {v : Value} {d : DataW H} {ps : List MemPlace} (ht : P.underlying t = some (.slice e)) (he : P.underlying e = some (.int .i64)) (hc : P.cellsOf e = 1)
    (hval : Value.okWide P W .any base t v) (h : DataW.Trod enc P W 0 (fun _ => true) true t v d ps) : ∃ zs : List Int, Ints W.heap.size W v zs ∧ zs.length ≤ maxLen := by
  obtain ⟨a1, len, cap, rfl⟩ := okWide_slice ht hval
  obtain ⟨fuel, hf⟩ := h
  rcases open_ints ht he hc hf with ⟨hcs, hx⟩ | ⟨a, len', cap', zs, hcs, _, hl, hm, hz, hx, hcell, hwz⟩
  · simp [Value.cells] at hcs
    obtain ⟨rfl, rfl, rfl⟩ := hcs
    exact ⟨[], ⟨none, 0, rfl, by simp⟩, by simp⟩
  · simp [Value.cells] at hcs
    obtain ⟨rfl, rfl, rfl⟩ := hcs
    simp only [if_true] at hz
    have hlen : (zs.take len).length = len := by simp; omega
    refine ⟨zs.take len, ⟨some a, cap, by rw [hlen], fun hp => ?_⟩, by rw [hlen]; omega⟩
    rw [hlen] at hp ⊢
    obtain ⟨ab, ao, spot⟩ := a
    have hspot : spot = none := by simpa [Addr.add] using World.cell?_spot (hcell 0 (by omega))
    subst hspot
    have h0 := hcell 0 (by omega)
    rw [Addr.add_lit] at h0
    refine ⟨ab, ao, rfl, block_lt_cell h0, fun j hj => ?_⟩
    have hj' := hcell j (by omega)
    rw [Addr.add_lit] at hj'
    rw [hj']
    simp [List.getD, hj]

set_option maxRecDepth 100000 in
set_option maxHeartbeats 8000000 in
theorem mailNone_law (sv tv : Value) (l : List Mail3) (hlen : l.length ≤ maxLen) (hlens : ∀ m ∈ l, m.bs.length ≤ maxLen) (zs : List Int) (hzl : zs.length ≤ maxLen) (w : World) (hI : Mails w.heap.size w sv l) (hJ : Ints w.heap.size w tv zs) :
    Calls Try.prog 4 #[sv, tv] w fun e W => e = .returned (.bool true) ∧ Below w.heap.size w W := by
  obtain ⟨A, cap, rfl⟩ := hI.form
  obtain ⟨Z, zcap, rfl⟩ := hJ.form
  obtain ⟨len, hl⟩ : ∃ len, l.length = len := ⟨_, rfl⟩
  obtain ⟨plen, hpl⟩ : ∃ plen, zs.length = plen := ⟨_, rfl⟩
  rw [hl] at hI hlen ⊢
  rw [hpl] at hJ hzl ⊢
  unfold maxLen at hlen hzl
  have HI := Lib.hid hI
  have HJ := Lib.hid hJ
  have HLS := Lib.hid hlens
  have HL := Lib.hid hl
  clear hI hJ hlens hl hpl
  go_enter Try.func4, Try.ntmps4
  go_wp2_with fail
  refine (known_calls w).mono ?_
  rintro e w1 ⟨rfl, hB1⟩
  have hs1 := hB1.size
  have HB1 := Lib.hid hB1
  clear hB1
  go_wp2_with fail
  refine (new_calls 64 (by decide) (by decide) w1).mono ?_
  rintro e w2 ⟨rfl, hP2, hB2⟩
  have hF0 : Frm isPost w.heap.size w w2 := (Frm.of_below HB1.out (Nat.le_refl _)).then_below hB2 hs1
  have hB0 := hF0.low
  have HP2 := Lib.hid (hP2.lower hs1)
  have HB0 := Lib.hid hB0
  clear hP2 hB2 HB1 hF0 hB0
  go_wp2_with fail
  go_loopw [7, 8] (fun v i wr => ∃ (k : Nat) (ks : List Mail3), i = .int .i64 k ∧ k ≤ len ∧ k ≤ 60 ∧ ks.length ≤ k ∧ (∀ q ∈ ks, q.bs.length ≤ 65536) ∧ Post wr w.heap.size w1.heap.size 64 (ks.map Mail3.msg) ∧ KeptM w.heap.size wr w.heap.size v ks ∧ Below w.heap.size w wr) (fun _ i _ => 60 - (intOf i).toNat)
  case atStart => exact ⟨0, [], rfl, Nat.zero_le _, by decide, Nat.le_refl _, by simp, HP2.out, KeptM.nil _ _ _, HB0.out⟩
  case round =>
    obtain ⟨k, ks, rfl, hk, hk60, hmk, hsh, hP, hK, hBr⟩ := hrel
    obtain ⟨A7, c7, rfl⟩ := hK.form
    have hsr := hBr.size
    have HP := Lib.hid hP
    have HK := Lib.hid hK
    have HBr := Lib.hid hBr
    have HSH := Lib.hid hsh
    clear hP hK hBr HP2 HB0 hsh
    by_cases hlt : k < len ∧ k < 60
    · obtain ⟨hlt, hlt60⟩ := hlt
      obtain ⟨b, off, rfl, hb, hcs⟩ := HI.out.cells (by omega)
      obtain ⟨m, hm⟩ : ∃ m, l[k]? = some m := ⟨_, List.getElem?_eq_getElem (by rw [HL.out]; exact hlt)⟩
      obtain ⟨u, q0, q1, q2, hIu⟩ := hcs k m hm
      have q0 := (HBr.out.cell (p := ⟨b, off + k * 3, none⟩) hb).trans q0
      have q1 := (HBr.out.cell (p := ⟨b, off + k * 3 + 1, none⟩) hb).trans q1
      have q2 := (HBr.out.cell (p := ⟨b, off + k * 3 + 2, none⟩) hb).trans q2
      have hIr := hIu.below HBr.out
      have hbl := HLS.out m (List.mem_of_getElem? hm)
      obtain ⟨S, D, bs⟩ := m
      simp only at q0 q1 q2 hIr hbl
      unfold maxLen at hbl
      obtain ⟨Au, cu, rfl⟩ := hIr.form
      have HIr := Lib.hid hIr
      have hkI : (k : Int) < (len : Int) := by omega
      have hkI2 : (k : Int) < 60 := by omega
      have hbr : b < wr.heap.size := by omega
      clear hcs hIu hIr hm
      obtain ⟨bl, hbl'⟩ : ∃ bl, bs.length = bl := ⟨_, rfl⟩
      have HBL := Lib.hid hbl'
      by_cases hn : ((0 : Int) ≤ S ∧ S < 64) ∧ ((0 : Int) ≤ D ∧ D < 64)
      · by_cases hfit : bs.length ≤ 65536
        · have CS := Lib.hid (send_calls w.heap.size w1.heap.size 64 _ wr HP.out hsr S D hn.1 hn.2 _ bs (HIr.out.more hsr) hfit (by rw [List.length_map]; omega))
          rw [hbl'] at q2 CS hbl
          clear hbl' hn
          go_wp2_with fail
          refine CS.out.mono ?_
          rintro e w3 ⟨rfl, hP3, hF3⟩
          have hB3 := HBr.out.trans hF3.low
          have hs3 := hB3.size
          have q03 := (hF3.low.cell (p := ⟨b, off + k * 3, none⟩) hb).trans q0
          have q13 := (hF3.low.cell (p := ⟨b, off + k * 3 + 1, none⟩) hb).trans q1
          have q23 := (hF3.low.cell (p := ⟨b, off + k * 3 + 2, none⟩) hb).trans q2
          have hK3 := HK.out.frm hF3 (by decide) hF3.low
          have hI3 := HIr.out.below hF3.low
          rw [HBL.out] at hI3
          have hw4 := heap_alloc_new w3 (.cells #[.int .i64 S, .int .i64 D, .slice Au bl cu] 34)
          have hb4 := (Below.refl w3.heap.size w3).alloc (Nat.le_refl _) (.cells #[.int .i64 S, .int .i64 D, .slice Au bl cu] 34)
          obtain ⟨A', c', w5, hrun, hK5, hF5⟩ := (hK3.frm (S := fun _ => false) (Frm.of_below hb4 hs3) rfl (hb4.mono hs3)).append (Nat.le_refl _) (by simp; omega) 29 w3.heap.size (.slice Au bl cu) ⟨S, D, bs⟩ hw4 (hI3.below (hb4.mono hs3)) (by omega)
          have hP5 := (hP3.below hb4).frm hF5 (by decide) (by decide)
          have hB5 := (hB3.trans (hb4.mono hs3)).trans hF5.low
          have hmap : (ks ++ [(⟨S, D, bs⟩ : Mail3)]).map Mail3.msg = ks.map Mail3.msg ++ [⟨S, D, str bs⟩] := by rw [List.map_append]; rfl
          rw [← hmap] at hP5
          have hsh5 : ∀ q ∈ ks ++ [(⟨S, D, bs⟩ : Mail3)], q.bs.length ≤ 65536 := by
            intro q hq
            rcases List.mem_append.1 hq with hq | hq
            · exact HSH.out q hq
            · simp only [List.mem_singleton] at hq
              subst hq
              exact hfit
          have HRUN := Lib.hid hrun
          have HP5 := Lib.hid hP5
          have HK5 := Lib.hid hK5
          have HB5 := Lib.hid hB5
          have HSH5 := Lib.hid hsh5
          have hb3 : b < w3.heap.size := by omega
          clear hrun hP5 hK5 hB5 hF5 hb4 hw4 hP3 hF3 hB3 hK3 hI3 CS HK HP hmap hsh5 hfit
          go_wp2_with (at_builtin; refine wpList_append_ran rfl _ _ _ rfl rfl rfl HRUN.out ?_)
          go_roundw
          case rel => exact ⟨k + 1, ks ++ [⟨S, D, bs⟩], by go_num, by omega, by omega, by rw [List.length_append]; simp; omega, HSH5.out, HP5.out, HK5.out, HB5.out⟩
          case measure => simp [intOf]; omega
        · rw [hbl'] at q2 hbl hfit
          have CS := Lib.hid (send_long w.heap.size w1.heap.size 64 _ wr HP.out S D hn.1 hn.2 Au bl cu (by omega) hbl)
          clear hbl' hn
          go_wp2_with fail
          refine CS.out.mono ?_
          rintro e w3 ⟨rfl, hB3⟩
          have HP3 := Lib.hid (HP.out.below hB3)
          have HK3 := Lib.hid (HK.out.frm (S := fun _ => false) (Frm.of_below hB3 hsr) rfl (hB3.mono hsr))
          have HB3 := Lib.hid (HBr.out.trans (hB3.mono hsr))
          clear hB3 CS HP HK
          go_wp2_with fail
          go_roundw
          case rel => exact ⟨k + 1, ks, by go_num, by omega, by omega, by omega, HSH.out, HP3.out, HK3.out, HB3.out⟩
          case measure => simp [intOf]; omega
      · have CS := Lib.hid (send_nodes w.heap.size w1.heap.size 64 _ wr HP.out S D (.slice Au bl cu) hn)
        rw [hbl'] at q2 hbl
        clear hbl' hn
        go_wp2_with fail
        refine CS.out.mono ?_
        rintro e w3 ⟨rfl, hB3⟩
        have HP3 := Lib.hid (HP.out.below hB3)
        have HK3 := Lib.hid (HK.out.frm (S := fun _ => false) (Frm.of_below hB3 hsr) rfl (hB3.mono hsr))
        have HB3 := Lib.hid (HBr.out.trans (hB3.mono hsr))
        clear hB3 CS HP HK
        go_wp2_with fail
        go_roundw
        case rel => exact ⟨k + 1, ks, by go_num, by omega, by omega, by omega, HSH.out, HP3.out, HK3.out, HB3.out⟩
        case measure => simp [intOf]; omega
    · have hkn : ¬ (k : Int) < (len : Int) ∨ ((k : Int) < (len : Int) ∧ ¬ (k : Int) < 60) := by omega
      have hN : ks.length ≤ 60 := by omega
      clear hlt
      rcases hkn with hkn | ⟨hkn, hkn2⟩
      all_goals
        go_wp2_with fail
        go_loopw [9, 10] (fun nv i wx => ∃ (j : Nat) (ms : List Msg), nv = .int .i64 ms.length ∧ i = .int .i64 j ∧ j ≤ plen ∧ j ≤ 60 ∧ ms.length ≤ 60 + j ∧ (∀ m ∈ ms, ∃ q ∈ ks, m = q.msg) ∧ Post wx w.heap.size w1.heap.size 64 ms ∧ KeptM w.heap.size wx w.heap.size (.slice A7 ks.length c7) ks ∧ Below w.heap.size w wx) (fun _ i _ => 60 - (intOf i).toNat)
        case atStart => exact ⟨0, ks.map Mail3.msg, by rw [List.length_map], rfl, Nat.zero_le _, by decide, by rw [List.length_map]; omega, fun m hm => by obtain ⟨q, hq, rfl⟩ := List.mem_map.1 hm; exact ⟨q, hq, rfl⟩, HP.out, HK.out, HBr.out⟩
        case round =>
          obtain ⟨j, ms, rfl, rfl, hj, hj60, hml, hmem, hP3, hK3, hB3⟩ := hrel
          have HP3 := Lib.hid hP3
          have HK3 := Lib.hid hK3
          have HB3 := Lib.hid hB3
          have HMEM := Lib.hid hmem
          have hs3 := hB3.size
          clear hP3 hK3 hB3 hmem HP HK HBr
          by_cases hgo : (j < plen ∧ j < 60) ∧ 0 < ms.length
          · obtain ⟨⟨hjp, hj6⟩, hpos⟩ := hgo
            obtain ⟨bz, oz, rfl, hbz, hcz⟩ := HJ.out.cells (by omega)
            have hcz := (HB3.out.cell (p := ⟨bz, oz + j, none⟩) hbz).trans (hcz j hjp)
            obtain ⟨z, hz⟩ : ∃ z, zs.getD j 0 = z := ⟨_, rfl⟩
            rw [hz] at hcz
            have hbz2 : bz < wr.heap.size := by omega
            have hjI : (j : Int) < (plen : Int) := by omega
            have hjI2 : (j : Int) < 60 := by omega
            have hposI : 0 < (ms.length : Int) := by omega
            obtain ⟨t, ht, hsz⟩ := place_mod z ms.length hpos (by omega)
            have HSZ := Lib.hid hsz
            obtain ⟨m, hm⟩ : ∃ m, ms[t]? = some m := ⟨_, List.getElem?_eq_getElem ht⟩
            have HM := Lib.hid hm
            obtain ⟨q, hq, hqm⟩ := HMEM.out m (List.mem_of_getElem? hm)
            have hms : m.s.size ≤ 65536 := by
              rw [hqm]
              show (str q.bs).size ≤ _
              unfold str; show (q.bs.map UInt8.ofNat).toArray.size ≤ _
              simpa using HSH.out q hq
            have HQ := Lib.hid hq
            have HQM := Lib.hid hqm
            clear hz hsz hm hq hqm
            by_cases h3 : z.tmod 3 = 0
            · have h3b : ((z.tmod 3 : Int) == 0) = true := by rw [beq_iff_eq]; exact h3
              have CT := Lib.hid (twice_calls w.heap.size w1.heap.size 64 ms wr HP3.out hs3 t m HM.out (by omega))
              clear h3
              go_wp2_with fail
              rw [HSZ.out]
              refine CT.out.mono ?_
              rintro e w4 ⟨rfl, hP4, hF4⟩
              have hB4 := HB3.out.trans hF4.low
              have hK4 := HK3.out.frm hF4 (by decide) hF4.low
              have HP4 := Lib.hid hP4
              have HK4 := Lib.hid hK4
              have HB4 := Lib.hid hB4
              have hlen4 : ((ms ++ [m]).length : Int) = (ms.length : Int) + 1 := by rw [List.length_append]; simp
              have HL4 := Lib.hid hlen4
              have hml2 : ms.length ≤ 120 := by omega
              clear hP4 hF4 hB4 hK4 CT hlen4
              go_wp2_with fail
              go_roundw
              case rel => exact ⟨j + 1, ms ++ [m], by rw [HL4.out], by go_num, by omega, by omega, by rw [List.length_append]; simp; omega, fun x hx => by
                rcases List.mem_append.1 hx with hx | hx
                · exact HMEM.out x hx
                · simp only [List.mem_singleton] at hx
                  exact ⟨q, HQ.out, by rw [hx]; exact HQM.out⟩, HP4.out, HK4.out, HB4.out⟩
              case measure => simp [intOf]; omega
            · have h3b : ((z.tmod 3 : Int) == 0) = false := by rw [beq_eq_false_iff_ne]; exact h3
              have CT := Lib.hid (take_calls w.heap.size w1.heap.size 64 ms wr HP3.out hs3 t m HM.out hms)
              clear h3
              go_wp2_with fail
              rw [HSZ.out]
              refine CT.out.mono ?_
              rintro e w4 ⟨v, rfl, hG, hP4, hF4, -⟩
              have hB4 := HB3.out.trans hF4.low
              have hs4 := hB4.size
              have hK4 := HK3.out.frm hF4 (by decide) hF4.low
              obtain ⟨w5, hw5⟩ : ∃ w5, w4.alloc (.cells #[.int .i64 m.src, .int .i64 m.dst, v] 34) = w5 := ⟨_, rfl⟩
              have hb5 : Below w4.heap.size w4 w5 := by rw [← hw5]; exact (Below.refl _ _).alloc (Nat.le_refl _) _
              have hr5 : Three w5 w4.heap.size (.int .i64 m.src) (.int .i64 m.dst) v 34 := by rw [← hw5]; exact heap_alloc_new w4 _
              have HG5 := Lib.hid (hG.below hb5)
              have HK5 := Lib.hid (hK4.frm (S := fun _ => false) (Frm.of_below hb5 hs4) rfl (hb5.mono hs4))
              have HP5 := Lib.hid (hP4.below hb5)
              have HB5 := Lib.hid (hB4.trans (hb5.mono hs4))
              have HR5 := Lib.hid hr5
              have HW5 := Lib.hid hw5
              have hw4l : w4.heap.size < w5.heap.size := lt_of_at hr5
              obtain ⟨gb, gc, rfl, hgb, _⟩ := hG.own
              obtain ⟨L, hL⟩ : ∃ L, (bytesOf m.s).length = L := ⟨_, rfl⟩
              have HLL := Lib.hid hL
              rw [hL] at HR5 HW5 HG5 ⊢
              obtain ⟨m3, hm3⟩ : ∃ m3 : Mail3, m3 = ⟨m.src, m.dst, bytesOf m.s⟩ := ⟨_, rfl⟩
              have HM3 := Lib.hid hm3
              have hml2 : ms.length ≤ 120 := by omega
              clear hG hP4 hF4 hB4 hK4 hw5 hb5 hr5 hL CT hm3
              go_wp2_with fail
              rw [HW5.out]
              go_loopw [14, 15] (fun f jj wy => ∃ s : Nat, f = .bool ((ks.take s).any (sameB m3)) ∧ jj = .int .i64 s ∧ s ≤ ks.length ∧ Below w5.heap.size w5 wy) (fun _ jj _ => ks.length - (intOf jj).toNat)
              case atStart => exact ⟨0, by simp, rfl, Nat.zero_le _, Below.refl _ _⟩
              case round =>
                obtain ⟨s, rfl, rfl, hsl, hBy⟩ := hrel
                have HBy := Lib.hid hBy
                have hsy := hBy.size
                have hK6 := HK5.out.frm (S := fun _ => false) (Frm.of_below hBy HB5.out.size) rfl (hBy.mono HB5.out.size)
                have hr6 := HR5.out.at (hBy.block _ hw4l)
                have hG6 := HG5.out.below hBy
                clear hBy
                by_cases hlt2 : s < ks.length
                · obtain ⟨q2, hq2⟩ : ∃ q2, ks[s]? = some q2 := ⟨_, List.getElem?_eq_getElem hlt2⟩
                  have hany : (ks.take (s + 1)).any (sameB m3) = ((ks.take s).any (sameB m3) || sameB m3 q2) := by
                    have hv : ks[s] = q2 := (List.getElem?_eq_some_iff.1 hq2).2
                    rw [List.take_succ_eq_append_getElem hlt2, List.any_append, hv]
                    simp
                  have HANY := Lib.hid hany
                  obtain ⟨r0, r1, r2, _⟩ := hr6.cells
                  obtain ⟨g, u, rfl, hg1, hg2, e0, e1, e2, hIu⟩ := hK6.cell hq2
                  have hw4r : w4.heap.size < wr.heap.size := by omega
                  have hlt2I : (s : Int) < (ks.length : Int) := by omega
                  cases hb : (ks.take s).any (sameB m3) with
                  | true =>
                    rw [hb] at hany
                    have HANY := Lib.hid hany
                    clear hany hIu hG6 hr6 hK6
                    go_wp2_with fail
                    go_quiet (fail)
                    go_wp2_with fail
                    go_roundw
                    case rel => exact ⟨s + 1, by rw [HANY.out]; rfl, by go_num, by omega, HBy.out.trans ⟨rfl, rfl, rfl, Nat.le_refl _, fun _ _ => rfl⟩⟩
                    case measure => simp [intOf]; omega
                  | false =>
                    rw [hb, Bool.false_or] at hany
                    have HANY := Lib.hid hany
                    have hA3 : MailIs wr.heap.size wr (mailV m.src m.dst (.slice (some ⟨gb, 0, none⟩) L gc)) m3 := by
                      rw [HM3.out]
                      exact ⟨_, rfl, by simpa [HLL.out] using hG6.bytes⟩
                    have hU3 : MailIs wr.heap.size wr (mailV q2.src q2.dst u) q2 := ⟨_, rfl, hIu.more (by omega)⟩
                    have cS := fun d os => Calls.regrown_of (d := d) (os := os) (refSame_calls m3 q2 _ _ (grow (redrawn wr d) os) (hA3.on (below_regrown wr d os)) (hU3.on (below_regrown wr d os)))
                    obtain ⟨sb, hsb⟩ : ∃ sb, sameB m3 q2 = sb := ⟨_, rfl⟩
                    rw [hsb] at cS hany
                    have HANY := Lib.hid hany
                    obtain ⟨Au, cu, rfl⟩ := hIu.form
                    obtain ⟨bl, hbl'⟩ : ∃ bl, q2.bs.length = bl := ⟨_, rfl⟩
                    rw [hbl'] at cS e2
                    have CS := Lib.hid cS
                    clear hany hIu hG6 hr6 hK6 hA3 hU3 cS hsb hbl' hb
                    go_wp2_with fail
                    have R0 := cell_regrown r0
                    have R1 := cell_regrown r1
                    have R2 := cell_regrown r2
                    have E0 := cell_regrown e0
                    have E1 := cell_regrown e1
                    have E2 := cell_regrown e2
                    refine wp_region_quiet_below (by kernel_rfl) (by kernel_rfl) ?_
                    repeat (go_big_quiet_step ((exact CS.out _ _)))
                    refine wpQuiet_nil ?_
                    intro w' hw'
                    obtain ⟨⟨d, os⟩, rfl⟩ := hw'
                    have HB7 := Lib.hid (HBy.out.trans ((below_regrown wr d os).mono hsy))
                    clear CS R0 R1 R2 E0 E1 E2
                    generalize grow (redrawn wr d) os = w7 at HB7 ⊢
                    go_wp2_with fail
                    go_roundw
                    case rel => exact ⟨s + 1, by rw [HANY.out], by go_num, by omega, HB7.out⟩
                    case measure => simp [intOf]; omega
                · obtain rfl : s = ks.length := by omega
                  have htrue : (ks.take ks.length).any (sameB m3) = true := by
                    rw [List.take_length, List.any_eq_true]
                    refine ⟨q, HQ.out, ?_⟩
                    rw [HM3.out, HQM.out]
                    have : bytesOf (Mail3.msg q).s = q.bs := bytesOf_str (hK6.lt HQ.out)
                    rw [this]
                    exact sameB_self q
                  rw [htrue]
                  have hP6 := HP5.out.below (W' := wr) (HBy.out.mono (Nat.le_refl _))
                  have CL := Lib.hid (len_calls _ _ _ _ _ hP6)
                  have hl6 : ((ms.take t ++ ms.drop (t + 1)).length : Int) = (ms.length : Int) - 1 := by
                    rw [List.length_append, List.length_take, List.length_drop]; omega
                  rw [hl6] at CL
                  have HL6 := Lib.hid hl6
                  have HP6 := Lib.hid hP6
                  have HK6 := Lib.hid hK6
                  have HB6 := Lib.hid (HB5.out.trans (HBy.out.mono HB5.out.size))
                  clear hP6 hK6 hr6 hG6 htrue hl6
                  go_wp2_with fail
                  refine CL.out.mono ?_
                  rintro e W ⟨rfl, rfl⟩
                  go_wp2_with fail
                  go_roundw
                  case rel => exact ⟨j + 1, ms.take t ++ ms.drop (t + 1), by rw [HL6.out], by go_num, by omega, by omega, by have := HL6.out; omega, fun x hx => by
                    rcases List.mem_append.1 hx with hx | hx
                    · exact HMEM.out x (List.mem_of_mem_take hx)
                    · exact HMEM.out x (List.mem_of_mem_drop hx), HP6.out, HK6.out, HB6.out⟩
                  case measure => simp [intOf]; omega
          · have hst : ¬ (j : Int) < (plen : Int) ∨ ((j : Int) < (plen : Int) ∧ ¬ (j : Int) < 60) ∨ (((j : Int) < (plen : Int) ∧ (j : Int) < 60) ∧ ¬ 0 < (ms.length : Int)) := by omega
            have CL := Lib.hid (len_calls _ _ _ _ _ HP3.out)
            clear hgo
            rcases hst with hst | ⟨hst, hst2⟩ | ⟨⟨hst, hst2⟩, hst3⟩
            all_goals
              go_wp2_with fail
              refine CL.out.mono ?_
              rintro e W ⟨rfl, rfl⟩
              go_wp2_with fail
              go_ret
              exact ⟨rfl, HB3.out⟩

end Go.Proofs.Ytjcgkjjomiapoaa.Mail
