/-
  DiskSynced's disk as data: what has been written and synced, file by file.
-/
import Derived.Test.YtlmohcmnoddncaaDiskLawKnown
import Derived.Test.YtlmohcmnoddncaaByteRows
namespace Go.Proofs.Ytlmohcmnoddncaa.Disk
open Go Go.RowKit Go.Lib Go.Proofs.Ytlmohcmnoddncaa.Law

def nm (i : Nat) : ByteArray := str [102, 97 + i]
def nmZ : ByteArray := ⟨#[122, 122]⟩
theorem nm_right : ∀ i, i < 20 → rightB (nm i) = true := by decide +kernel
theorem nm_z : ∀ i, i < 20 → nm i ≠ nmZ := by decide +kernel
theorem nm_inj : ∀ i, i < 20 → ∀ j, j < 20 → nm i = nm j → i = j := by decide +kernel

structure SpecD (bss : List (List Nat)) (i : Nat) (D : DS) : Prop where
  chs : D.chs = []
  fails : D.fails = false
  room : D.room = 268435456
  made : D.made = i
  used : D.used = ((bss.take i).map List.length).sum
  safe : ∀ j, j < i → D.safe (nm j) = some (bss.getD j [])
  now : ∀ x, (∀ j, j < i → x ≠ nm j) → D.now x = none

theorem SpecD.start (bss : List (List Nat)) : SpecD bss 0 (DS.fresh 268435456) :=
  ⟨rfl, rfl, rfl, rfl, by simp [DS.fresh], fun j hj => by omega, fun _ _ => rfl⟩

theorem refN_ok {s : ByteArray} (h : rightB s = true) : refN false s 0 = 0 := by
  unfold refN
  simp [h]
theorem sum_next (bss : List (List Nat)) (i : Nat) (hi : i < bss.length) : ((bss.take (i + 1)).map List.length).sum = ((bss.take i).map List.length).sum + (bss.getD i []).length := by
  rw [List.take_succ_eq_append_getElem hi, List.map_append, List.sum_append]
  simp [List.getD, hi]
theorem sum_take_le (bss : List (List Nat)) (i k : Nat) (hik : i ≤ k) : ((bss.take i).map List.length).sum ≤ ((bss.take k).map List.length).sum := by
  have : bss.take i = (bss.take k).take i := by rw [List.take_take]; congr 1; omega
  rw [this]
  conv => rhs; rw [← List.take_append_drop i (bss.take k)]
  rw [List.map_append, List.sum_append]; omega

theorem SpecD.step {bss : List (List Nat)} {i : Nat} {D : DS} (h : SpecD bss i D) (hi : i < 20) (hil : i < bss.length) (hsum : ((bss.take (i + 1)).map List.length).sum ≤ 134217728) (hb : ∀ x ∈ bss.getD i [], x < 256) :
    D.writeN (nm i) 0 (bss.getD i []).length = 0 ∧ (D.write (nm i) 0 (str (bss.getD i []))).syncN (nm i) = 0 ∧ SpecD bss (i + 1) ((D.write (nm i) 0 (str (bss.getD i []))).sync (nm i)) := by
  have hr := nm_right i hi
  have hnow : D.now (nm i) = none := h.now _ fun j hj e => by have := nm_inj i hi j (by omega) e; omega
  have h0 : D.writeN (nm i) 0 (bss.getD i []).length = 0 := by
    unfold DS.writeN
    rw [h.fails, refN_ok hr, hnow, h.room, h.used]
    have := sum_next bss i hil
    rw [if_neg (by simp), if_neg (by simp [szO]), if_neg (by simp only [szO]; omega)]
  have hw : D.write (nm i) 0 (str (bss.getD i [])) = D.wrote (nm i) 0 (str (bss.getD i [])) := by
    unfold DS.write
    rw [str_size, if_pos h0]; rfl
  have hin : nm i ∈ (D.wrote (nm i) 0 (str (bss.getD i []))).names := by
    show nm i ∈ (if nm i ∈ D.names then D.names else D.names ++ [nm i])
    split
    · assumption
    · simp
  have hs : (D.wrote (nm i) 0 (str (bss.getD i []))).syncN (nm i) = 0 := by
    unfold DS.syncN
    have : (D.wrote (nm i) 0 (str (bss.getD i []))).fails = false := h.fails
    rw [this, refN_ok hr, if_neg (by simp), if_pos hin]
  have hn2 : (D.wrote (nm i) 0 (str (bss.getD i []))).now (nm i) = some (bss.getD i []) := by
    show upd D.now (nm i) _ (nm i) = _
    rw [upd_same, hnow, bytesS_str hb]
    simp [overL]
  refine ⟨h0, by rw [hw]; exact hs, ?_⟩
  rw [hw]
  unfold DS.sync
  rw [if_pos hs]
  refine ⟨?_, h.fails, h.room, ?_, ?_, fun j hj => ?_, fun x hx => ?_⟩
  · show others (nm i) (D.chs ++ [(nm i, _)]) = []
    rw [h.chs]
    simp [others]
  · show D.made + 1 = i + 1
    rw [h.made]
  · show D.used + (0 + (str (bss.getD i [])).size - szO (D.now (nm i))) = _
    rw [hnow, h.used, str_size, sum_next bss i hil]
    simp [szO]
  · show upd D.safe (nm i) ((D.wrote (nm i) 0 (str (bss.getD i []))).now (nm i)) (nm j) = _
    by_cases hj2 : j = i
    · subst hj2
      rw [upd_same, hn2]
    · rw [upd_other _ _ (fun e => hj2 (nm_inj j (by omega) i hi e))]
      exact h.safe j (by omega)
  · show upd D.now (nm i) _ x = none
    rw [upd_other _ _ (hx i (by omega))]
    exact h.now x fun j hj => hx j (by omega)

theorem SpecD.last {bss : List (List Nat)} {i : Nat} {D : DS} (h : SpecD bss i D) (hi : i ≤ 20) (ex : List Nat) (hsum : ex.length + ((bss.take i).map List.length).sum ≤ 134217728) (picks : List Int) :
    (D.write nmZ 0 (str ex)).made = i + 1 ∧ (∀ j, j < i → ((D.write nmZ 0 (str ex)).crash picks).now (nm j) = some (bss.getD j [])) ∧ ((D.write nmZ 0 (str ex)).crash picks).chs.length = 0 := by
  have hr : rightB nmZ = true := by decide +kernel
  have hnow : D.now nmZ = none := h.now _ fun j hj e => nm_z j (by omega) e.symm
  have h0 : D.writeN nmZ 0 ex.length = 0 := by
    unfold DS.writeN
    rw [h.fails, refN_ok hr, hnow, h.room, h.used]
    rw [if_neg (by simp), if_neg (by simp [szO]), if_neg (by simp only [szO]; omega)]
  have hw : D.write nmZ 0 (str ex) = D.wrote nmZ 0 (str ex) := by
    unfold DS.write
    rw [str_size, if_pos h0]; rfl
  rw [hw]
  refine ⟨by show D.made + 1 = i + 1; rw [h.made], fun j hj => ?_, rfl⟩
  show crashTo picks (D.chs ++ [(nmZ, _)]) D.safe _ (nm j) = _
  rw [crashTo_out (s := nm j)]
  · exact h.safe j hj
  · intro x hx e
    rw [h.chs] at hx
    simp only [List.nil_append, List.mem_singleton] at hx
    subst hx
    exact nm_z j (by omega) e.symm

end Go.Proofs.Ytlmohcmnoddncaa.Disk
