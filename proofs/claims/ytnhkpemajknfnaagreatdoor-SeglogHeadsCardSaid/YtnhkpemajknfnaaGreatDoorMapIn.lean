/-
  The steps of a range over a map and a delete, whose runs are known, inside a fence. Of whatever program.
-/
import Derived.Test.YtnhkpemajknfnaaGreatDoorMapOps
import Derived.Sort.MapsRangeIn
import Derived.OwnWalkIn
namespace Go.Proofs.YtnhkpemajknfnaaGreatDoor.Law
open Go Go.RowKit

section
variable {F : Fence} {n : Nat} {P : Program} {ops : Array Oper} {rest : List Oper} {o : Oper} {a : Act} {w w' : World} {Q : Exit → Act → World → Prop}

theorem wpListIn_exec_ran (hgd : o.guard = none) (hab : ∀ f, o.about P w a.eval = some f → F.fn f) (hnd : ∀ c, o.op ≠ .defer c) {v : Value} (hrun : (execOp a.eval o).run P w = .ok (.value v) w') (h : wpListIn F n P ops Q rest (a.put o.dst v) w') : wpListIn F n P ops Q (o :: rest) a w := by
  refine wpListIn_plain hgd fun K hK' => ?_
  unfold Oper.wpIn
  refine ⟨hab, ?_⟩
  rw [Oper.semAt_plain F _ _ hnd, hrun]
  exact hK' _ _ h
theorem wpListIn_range_ran (hgd : o.guard = none) (t : TypeId) (m : Operand) (ho : o.op = .range t m) {mv v : Value} (hm : a.eval m = mv) (hrun : (Instr.range t mv).run P w = .ok v w') (h : wpListIn F n P ops Q rest (a.put o.dst v) w') : wpListIn F n P ops Q (o :: rest) a w := by
  refine wpListIn_exec_ran hgd (by intro f hf; simp [Oper.about, ho] at hf) (by rw [ho]; intro c hc; cases hc) ?_ h
  unfold execOp
  simp only [ho, hm, Sem.run_bind, Sem.run_pure, hrun, Result.andThen_ok]
theorem wpListIn_next_ran (hgd : o.guard = none) (m : Operand) (b : Bool) (ho : o.op = .next m b) {mv v : Value} (hm : a.eval m = mv) (hrun : (Instr.next mv b o.type).run P w = .ok v w') (h : wpListIn F n P ops Q rest (a.put o.dst v) w') : wpListIn F n P ops Q (o :: rest) a w := by
  refine wpListIn_exec_ran hgd (by intro f hf; simp [Oper.about, ho] at hf) (by rw [ho]; intro c hc; cases hc) ?_ h
  unfold execOp
  simp only [ho, hm, Sem.run_bind, Sem.run_pure, hrun, Result.andThen_ok]
theorem wpListIn_entry_ran (hgd : o.guard = none) (m : Operand) (ho : o.op = .entry m) {mv v : Value} (hm : a.eval m = mv) (hrun : (Instr.entry mv).run P w = .ok v w') (h : wpListIn F n P ops Q rest (a.put o.dst v) w') : wpListIn F n P ops Q (o :: rest) a w := by
  refine wpListIn_exec_ran hgd (by intro f hf; simp [Oper.about, ho] at hf) (by rw [ho]; intro c hc; cases hc) ?_ h
  unfold execOp
  simp only [ho, hm, Sem.run_bind, Sem.run_pure, hrun, Result.andThen_ok]
end

end Go.Proofs.YtnhkpemajknfnaaGreatDoor.Law
