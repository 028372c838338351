/-
  The walk of the law FoldTables.
-/
import Derived.Test.YtonaclpebakemaaFoldKnown
import Derived.Lib.QuietBelow
import Derived.Deep.QuietTactic
namespace Go.Proofs.Ytonaclpebakemaa.Fold
open Go Go.RowKit Go.Sort Go.Proofs.Ytonaclpebakemaa.Law

theorem same_of_pure {P : Program} {f : FuncId} {args : Array Value} {w : World} {d : Nat} {os : Array Obj} {v : Value}
    (h : Calls P f args (grow (redrawn w d) os) fun e w' => e = .returned v ∧ grow (redrawn w d) os = w') : Calls P f args (grow (redrawn w d) os) fun e w'' => e = .returned v ∧ ∃ p : Regrown, w'' = grow (redrawn w p.d) p.os :=
  Calls.regrown_of (h.mono fun _ _ ⟨he, hw⟩ => ⟨he, hw ▸ Below.refl _ _⟩)

set_option maxRecDepth 100000 in
set_option maxHeartbeats 4000000 in
theorem foldTables_law (x : Int) (a b : Nat) (ha : a < 4294967296) (hb : b < 4294967296) (w : World) :
    Calls Try.prog 3 #[.int .i64 x, .agg #[.int .u32 (a : Nat), .int .u32 (b : Nat)]] w (RetT true w) := by
  have hB0 := (Below.refl w.heap.size w).alloc (Nat.le_refl _) (.cells #[.int .u32 (a : Nat), .int .u32 (b : Nat)] 24)
  have hc0 : (w.alloc (.cells #[.int .u32 (a : Nat), .int .u32 (b : Nat)] 24)).cell? ⟨w.heap.size, 0, none⟩ = some (.int .u32 (a : Nat)) := by simp
  have hc1 : (w.alloc (.cells #[.int .u32 (a : Nat), .int .u32 (b : Nat)] 24)).cell? ⟨w.heap.size, 1, none⟩ = some (.int .u32 (b : Nat)) := by simp
  have H0 := Lib.hid hB0
  have H1 := Lib.hid hc0
  have H2 := Lib.hid hc1
  clear hB0 hc0 hc1
  go_enter Try.func3, Try.ntmps3
  go_wp2_with fail
  generalize w.alloc (.cells #[.int .u32 (a : Nat), .int .u32 (b : Nat)] 24) = w0 at H0 H1 H2 ⊢
  have k0 := fun d os => cell_regrown H1.out d os
  have k1 := fun d os => cell_regrown H2.out d os
  have CK := Lib.hid fun d os => Calls.regrown_of (d := d) (os := os) (known_calls (grow (redrawn w0 d) os))
  have C1 := Lib.hid fun d os => same_of_pure (start_calls x a (grow (redrawn w0 d) os))
  have C2 := Lib.hid fun d os => same_of_pure (refStart_calls x a (grow (redrawn w0 d) os))
  have C3 := Lib.hid fun d os => same_of_pure (join_calls x a b ha hb (grow (redrawn w0 d) os))
  have C4 := Lib.hid fun d os => same_of_pure (refJoin_calls x a b ha hb (grow (redrawn w0 d) os))
  have C5 := Lib.hid fun d os => same_of_pure (map_calls x a b ha hb (grow (redrawn w0 d) os))
  have C6 := Lib.hid fun d os => same_of_pure (refMap_calls x a b ha hb (grow (redrawn w0 d) os))
  have C7 := Lib.hid fun d os => same_of_pure (test_calls x a b ha hb (grow (redrawn w0 d) os))
  have C8 := Lib.hid fun d os => same_of_pure (refTest_calls x a b ha hb (grow (redrawn w0 d) os))
  have hqq : ∀ x : Bool, (x == x) = true := fun x => by cases x <;> rfl
  refine wp_region_quiet_below (by kernel_rfl) (by kernel_rfl) ?_
  repeat (go_big_quiet_step ((first | exact CK.out _ _ | exact C1.out _ _ | exact C2.out _ _ | exact C3.out _ _ | exact C4.out _ _ | exact C5.out _ _ | exact C6.out _ _ | exact C7.out _ _ | exact C8.out _ _)))
  refine wpQuiet_nil ?_
  intro w' hw'
  obtain ⟨⟨d, os⟩, rfl⟩ := hw'
  have HB3 := Lib.hid (H0.out.trans ((below_regrown w0 d os).mono H0.out.size))
  clear CK C1 C2 C3 C4 C5 C6 C7 C8 k0 k1
  generalize grow (redrawn w0 d) os = w3 at HB3 ⊢
  go_wp2_with fail
  go_ret
  exact ⟨rfl, HB3.out⟩

end Go.Proofs.Ytonaclpebakemaa.Fold
