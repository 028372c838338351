/-
  NARROWER THAN 'FOR EVERY INPUT', by the rows' own cells (each row's printed sentence says how): FramePuts: laid · FrameNexts: laid · FrameCuts: laid · FrameBack: laid · FrameFlips: laid · FrameKeeps: laid · FrameRows: laid.
  DERIVED. THE GIVEN ROWS OF THIS SEAT. 7 by the template 'for every input the law returns true; each argument reads behind the call as it read before'; 0 by the template 'total and deterministic' (their statements: YtmflcpkkeejjpaaDoorTotals.lean).
  GIVEN WITH THE SEED: the statements are not yours to turn. If you find one false, say at which input.
  Laid BY PROGRAM, IN A SANDBOX (cutbox-rows.mjs): the forced cells as the released guide's own fill.sh prints them over the translation 86aaaa64ae46048e… (all of the seat's roots in one cut). By AI agents, Wed Nov 11 2026. No macro, syntax, notation, axiom, sorry.
-/
import Derived.Test.YtmflcpkkeejjpaaDoorChecked
import GoSem.Claim
import GoSem.ClaimJoined
import GoSem.ClaimMapViews
import Derived.JoinedTies
import Derived.KernelRfl
namespace Go.Proofs.YtmflcpkkeejjpaaDoor
/- THE CELL 'sum', in the pinned program and in every row, IS THE sha256 OF THE DUMP (.gsa) THAT YtmflcpkkeejjpaaDoorProg.lean LOADS. Nothing in Lean hashes anything: it is a label: what it is worth is what the hold of that sum in a sandbox is worth. -/
noncomputable def Tryd.pinned : Pinned := { name := "ytmflcpkkeejjpaadoor", sum := "86aaaa64ae46048e302c9b308876fa32d467d4b01df1c8e656fe247a2924772a", checked := Tryd.checked }
namespace Rows
def none {H : Type} : Left H := { results := [], args := [] }

/- WHAT THE LISTED PACKAGE-LEVEL VARIABLES READ AS WHEN THE CALL BEGINS. Each datum BY PROGRAM (the guide's laid-datum.mjs) off the statement by which the dump's own 'gosem.cut.vars' lays the variable. In a bare row this is a premise. The card (YtmflcpkkeejjpaaDoorCards.lean) ties it to the program's text. -/
def laid_millrace_crc_steps {H : Type} : DataW H := .agg [.lit (.int .u32 0), .lit (.int .u32 274646895), .lit (.int .u32 549293790), .lit (.int .u32 820201905), .lit (.int .u32 1098587580), .lit (.int .u32 1361435347), .lit (.int .u32 1640403810), .lit (.int .u32 1905808397), .lit (.int .u32 2197175160), .lit (.int .u32 2460548119), .lit (.int .u32 2722870694), .lit (.int .u32 2987750089), .lit (.int .u32 3280807620), .lit (.int .u32 3553878443), .lit (.int .u32 3811616794), .lit (.int .u32 4084100981)]

/-- 'millracelaw02.FramePuts': WHATEVER THE INPUT: true; the input reads as it did. -/
def framePutsSpec : ChangeSpec := { name := "framePuts", fn := fun _ => fun
  | [d] => { results := [.lit (.bool true)], args := [d] }
  | _ => none }
def framePutsRow : OpenClaim := { program := "ytmflcpkkeejjpaadoor", sum := "86aaaa64ae46048e302c9b308876fa32d467d4b01df1c8e656fe247a2924772a", func := "millrace/millracelaw02.FramePuts", spec := "framePuts", unfollowed := true, recurses := true, named := ["millrace/crc.steps"], apart := false, laid := [("millrace/crc.steps", laid_millrace_crc_steps)] }
def FramePutsSaid : Prop := framePutsRow.holds Tryd.pinned (OpenSpec.ofChange framePutsSpec)

/-- ITS FALSE NEIGHBOUR: 'it returns false'. Refute it at one input. -/
def framePutsWrong : ChangeSpec := { name := "framePuts", fn := fun _ => fun
  | [d] => { results := [.lit (.bool false)], args := [d] }
  | _ => none }
def FramePutsWrongFalsely : Prop := framePutsRow.holds Tryd.pinned (OpenSpec.ofChange framePutsWrong)

/-- 'millracelaw02.FrameNexts': WHATEVER THE INPUT: true; the input reads as it did. -/
def frameNextsSpec : ChangeSpec := { name := "frameNexts", fn := fun _ => fun
  | [d1, d2] => { results := [.lit (.bool true)], args := [d1, d2] }
  | _ => none }
def frameNextsRow : OpenClaim := { program := "ytmflcpkkeejjpaadoor", sum := "86aaaa64ae46048e302c9b308876fa32d467d4b01df1c8e656fe247a2924772a", func := "millrace/millracelaw02.FrameNexts", spec := "frameNexts", unfollowed := true, recurses := true, named := ["millrace/crc.steps"], apart := false, laid := [("millrace/crc.steps", laid_millrace_crc_steps)] }
def FrameNextsSaid : Prop := frameNextsRow.holds Tryd.pinned (OpenSpec.ofChange frameNextsSpec)

/-- ITS FALSE NEIGHBOUR: 'it returns false'. Refute it at one input. -/
def frameNextsWrong : ChangeSpec := { name := "frameNexts", fn := fun _ => fun
  | [d1, d2] => { results := [.lit (.bool false)], args := [d1, d2] }
  | _ => none }
def FrameNextsWrongFalsely : Prop := frameNextsRow.holds Tryd.pinned (OpenSpec.ofChange frameNextsWrong)

/-- 'millracelaw02.FrameCuts': WHATEVER THE INPUT: true; the input reads as it did. -/
def frameCutsSpec : ChangeSpec := { name := "frameCuts", fn := fun _ => fun
  | [d1, d2] => { results := [.lit (.bool true)], args := [d1, d2] }
  | _ => none }
def frameCutsRow : OpenClaim := { program := "ytmflcpkkeejjpaadoor", sum := "86aaaa64ae46048e302c9b308876fa32d467d4b01df1c8e656fe247a2924772a", func := "millrace/millracelaw02.FrameCuts", spec := "frameCuts", unfollowed := true, recurses := true, named := ["millrace/crc.steps"], apart := false, laid := [("millrace/crc.steps", laid_millrace_crc_steps)] }
def FrameCutsSaid : Prop := frameCutsRow.holds Tryd.pinned (OpenSpec.ofChange frameCutsSpec)

/-- ITS FALSE NEIGHBOUR: 'it returns false'. Refute it at one input. -/
def frameCutsWrong : ChangeSpec := { name := "frameCuts", fn := fun _ => fun
  | [d1, d2] => { results := [.lit (.bool false)], args := [d1, d2] }
  | _ => none }
def FrameCutsWrongFalsely : Prop := frameCutsRow.holds Tryd.pinned (OpenSpec.ofChange frameCutsWrong)

/-- 'millracelaw02.FrameBack': WHATEVER THE INPUT: true; the input reads as it did. -/
def frameBackSpec : ChangeSpec := { name := "frameBack", fn := fun _ => fun
  | [d1, d2] => { results := [.lit (.bool true)], args := [d1, d2] }
  | _ => none }
def frameBackRow : OpenClaim := { program := "ytmflcpkkeejjpaadoor", sum := "86aaaa64ae46048e302c9b308876fa32d467d4b01df1c8e656fe247a2924772a", func := "millrace/millracelaw02.FrameBack", spec := "frameBack", unfollowed := true, recurses := true, named := ["millrace/crc.steps"], apart := false, laid := [("millrace/crc.steps", laid_millrace_crc_steps)] }
def FrameBackSaid : Prop := frameBackRow.holds Tryd.pinned (OpenSpec.ofChange frameBackSpec)

/-- ITS FALSE NEIGHBOUR: 'it returns false'. Refute it at one input. -/
def frameBackWrong : ChangeSpec := { name := "frameBack", fn := fun _ => fun
  | [d1, d2] => { results := [.lit (.bool false)], args := [d1, d2] }
  | _ => none }
def FrameBackWrongFalsely : Prop := frameBackRow.holds Tryd.pinned (OpenSpec.ofChange frameBackWrong)

/-- 'millracelaw02.FrameFlips': WHATEVER THE INPUT: true; the input reads as it did. -/
def frameFlipsSpec : ChangeSpec := { name := "frameFlips", fn := fun _ => fun
  | [d1, d2, d3] => { results := [.lit (.bool true)], args := [d1, d2, d3] }
  | _ => none }
def frameFlipsRow : OpenClaim := { program := "ytmflcpkkeejjpaadoor", sum := "86aaaa64ae46048e302c9b308876fa32d467d4b01df1c8e656fe247a2924772a", func := "millrace/millracelaw02.FrameFlips", spec := "frameFlips", unfollowed := true, recurses := true, named := ["millrace/crc.steps"], apart := false, laid := [("millrace/crc.steps", laid_millrace_crc_steps)] }
def FrameFlipsSaid : Prop := frameFlipsRow.holds Tryd.pinned (OpenSpec.ofChange frameFlipsSpec)

/-- ITS FALSE NEIGHBOUR: 'it returns false'. Refute it at one input. -/
def frameFlipsWrong : ChangeSpec := { name := "frameFlips", fn := fun _ => fun
  | [d1, d2, d3] => { results := [.lit (.bool false)], args := [d1, d2, d3] }
  | _ => none }
def FrameFlipsWrongFalsely : Prop := frameFlipsRow.holds Tryd.pinned (OpenSpec.ofChange frameFlipsWrong)

/-- 'millracelaw02.FrameKeeps': WHATEVER THE INPUT: true; the input reads as it did. -/
def frameKeepsSpec : ChangeSpec := { name := "frameKeeps", fn := fun _ => fun
  | [d] => { results := [.lit (.bool true)], args := [d] }
  | _ => none }
def frameKeepsRow : OpenClaim := { program := "ytmflcpkkeejjpaadoor", sum := "86aaaa64ae46048e302c9b308876fa32d467d4b01df1c8e656fe247a2924772a", func := "millrace/millracelaw02.FrameKeeps", spec := "frameKeeps", unfollowed := true, recurses := true, named := ["millrace/crc.steps"], apart := false, laid := [("millrace/crc.steps", laid_millrace_crc_steps)] }
def FrameKeepsSaid : Prop := frameKeepsRow.holds Tryd.pinned (OpenSpec.ofChange frameKeepsSpec)

/-- ITS FALSE NEIGHBOUR: 'it returns false'. Refute it at one input. -/
def frameKeepsWrong : ChangeSpec := { name := "frameKeeps", fn := fun _ => fun
  | [d] => { results := [.lit (.bool false)], args := [d] }
  | _ => none }
def FrameKeepsWrongFalsely : Prop := frameKeepsRow.holds Tryd.pinned (OpenSpec.ofChange frameKeepsWrong)

/-- 'millracelaw02.FrameRows': WHATEVER THE INPUT: true; the input reads as it did. -/
def frameRowsSpec : ChangeSpec := { name := "frameRows", fn := fun _ => fun
  | [d1, d2] => { results := [.lit (.bool true)], args := [d1, d2] }
  | _ => none }
def frameRowsRow : OpenClaim := { program := "ytmflcpkkeejjpaadoor", sum := "86aaaa64ae46048e302c9b308876fa32d467d4b01df1c8e656fe247a2924772a", func := "millrace/millracelaw02.FrameRows", spec := "frameRows", unfollowed := true, recurses := true, named := ["millrace/crc.steps"], apart := false, laid := [("millrace/crc.steps", laid_millrace_crc_steps)] }
def FrameRowsSaid : Prop := frameRowsRow.holds Tryd.pinned (OpenSpec.ofChange frameRowsSpec)

/-- ITS FALSE NEIGHBOUR: 'it returns false'. Refute it at one input. -/
def frameRowsWrong : ChangeSpec := { name := "frameRows", fn := fun _ => fun
  | [d1, d2] => { results := [.lit (.bool false)], args := [d1, d2] }
  | _ => none }
def FrameRowsWrongFalsely : Prop := frameRowsRow.holds Tryd.pinned (OpenSpec.ofChange frameRowsWrong)

/- THE SECOND FORM. 'bulk': how many values and letters a reading holds, each counted each time it is reached (what is shared counts as often as it is met; a slice's spare places count too). A statement '..UptoSaid' is the law's where the arguments, and the package variables that the reading takes, are together of bulk at most 1048576: NARROWER than '..Said'. Prove '..Said' where nothing that the law and all that it calls make is longer than what came in: it says more and counts as full. Else prove '..UptoSaid'. A law counts once. -/
mutual
def uptoBulk {H : Type} : DataW H → Nat
  | .lit (.string bytes) => bytes.length + 1
  | .lit _ => 1
  | .nil => 1
  | .ptr d => uptoBulk d + 1
  | .slice elems spare => uptoBulkAll elems + uptoBulkAll spare + 1
  | .agg parts => uptoBulkAll parts + 1
  | .iface _ d => uptoBulk d + 1
  | .map entries => uptoBulkEntries entries + 1
  | .held _ => 1
def uptoBulkAll {H : Type} : List (DataW H) → Nat
  | [] => 0
  | d :: r => uptoBulk d + uptoBulkAll r
def uptoBulkEntries {H : Type} : List (Lit × DataW H) → Nat
  | [] => 0
  | x :: r => uptoBulkEntry x + uptoBulkEntries r
def uptoBulkEntry {H : Type} : Lit × DataW H → Nat
  | (.string bytes, d) => bytes.length + uptoBulk d + 1
  | (_, d) => uptoBulk d + 1
 end
def uptoSmall : (H : Type) → List (DataW H) → Bool := fun _ ds => decide (uptoBulkAll ds ≤ 1048576)
def OpenSpec.upto (s : _root_.Go.ChangeSpec) : _root_.Go.OpenSpec := { _root_.Go.OpenSpec.ofChange s with cond := some uptoSmall }

/-- 'millracelaw02.FramePuts', WHERE WHAT IT READS IS OF BULK AT MOST 1048576: true; the input reads as it did. -/
def framePutsUptoRow : OpenClaim := { program := "ytmflcpkkeejjpaadoor", sum := "86aaaa64ae46048e302c9b308876fa32d467d4b01df1c8e656fe247a2924772a", func := "millrace/millracelaw02.FramePuts", spec := "framePuts", unfollowed := true, recurses := true, named := ["millrace/crc.steps"], apart := false, laid := [("millrace/crc.steps", laid_millrace_crc_steps)], narrowed := true }
def FramePutsUptoSaid : Prop := framePutsUptoRow.holds Tryd.pinned (OpenSpec.upto framePutsSpec)

/-- 'millracelaw02.FrameNexts', WHERE WHAT IT READS IS OF BULK AT MOST 1048576: true; the input reads as it did. -/
def frameNextsUptoRow : OpenClaim := { program := "ytmflcpkkeejjpaadoor", sum := "86aaaa64ae46048e302c9b308876fa32d467d4b01df1c8e656fe247a2924772a", func := "millrace/millracelaw02.FrameNexts", spec := "frameNexts", unfollowed := true, recurses := true, named := ["millrace/crc.steps"], apart := false, laid := [("millrace/crc.steps", laid_millrace_crc_steps)], narrowed := true }
def FrameNextsUptoSaid : Prop := frameNextsUptoRow.holds Tryd.pinned (OpenSpec.upto frameNextsSpec)

/-- 'millracelaw02.FrameCuts', WHERE WHAT IT READS IS OF BULK AT MOST 1048576: true; the input reads as it did. -/
def frameCutsUptoRow : OpenClaim := { program := "ytmflcpkkeejjpaadoor", sum := "86aaaa64ae46048e302c9b308876fa32d467d4b01df1c8e656fe247a2924772a", func := "millrace/millracelaw02.FrameCuts", spec := "frameCuts", unfollowed := true, recurses := true, named := ["millrace/crc.steps"], apart := false, laid := [("millrace/crc.steps", laid_millrace_crc_steps)], narrowed := true }
def FrameCutsUptoSaid : Prop := frameCutsUptoRow.holds Tryd.pinned (OpenSpec.upto frameCutsSpec)

/-- 'millracelaw02.FrameBack', WHERE WHAT IT READS IS OF BULK AT MOST 1048576: true; the input reads as it did. -/
def frameBackUptoRow : OpenClaim := { program := "ytmflcpkkeejjpaadoor", sum := "86aaaa64ae46048e302c9b308876fa32d467d4b01df1c8e656fe247a2924772a", func := "millrace/millracelaw02.FrameBack", spec := "frameBack", unfollowed := true, recurses := true, named := ["millrace/crc.steps"], apart := false, laid := [("millrace/crc.steps", laid_millrace_crc_steps)], narrowed := true }
def FrameBackUptoSaid : Prop := frameBackUptoRow.holds Tryd.pinned (OpenSpec.upto frameBackSpec)

/-- 'millracelaw02.FrameFlips', WHERE WHAT IT READS IS OF BULK AT MOST 1048576: true; the input reads as it did. -/
def frameFlipsUptoRow : OpenClaim := { program := "ytmflcpkkeejjpaadoor", sum := "86aaaa64ae46048e302c9b308876fa32d467d4b01df1c8e656fe247a2924772a", func := "millrace/millracelaw02.FrameFlips", spec := "frameFlips", unfollowed := true, recurses := true, named := ["millrace/crc.steps"], apart := false, laid := [("millrace/crc.steps", laid_millrace_crc_steps)], narrowed := true }
def FrameFlipsUptoSaid : Prop := frameFlipsUptoRow.holds Tryd.pinned (OpenSpec.upto frameFlipsSpec)

/-- 'millracelaw02.FrameKeeps', WHERE WHAT IT READS IS OF BULK AT MOST 1048576: true; the input reads as it did. -/
def frameKeepsUptoRow : OpenClaim := { program := "ytmflcpkkeejjpaadoor", sum := "86aaaa64ae46048e302c9b308876fa32d467d4b01df1c8e656fe247a2924772a", func := "millrace/millracelaw02.FrameKeeps", spec := "frameKeeps", unfollowed := true, recurses := true, named := ["millrace/crc.steps"], apart := false, laid := [("millrace/crc.steps", laid_millrace_crc_steps)], narrowed := true }
def FrameKeepsUptoSaid : Prop := frameKeepsUptoRow.holds Tryd.pinned (OpenSpec.upto frameKeepsSpec)

/-- 'millracelaw02.FrameRows', WHERE WHAT IT READS IS OF BULK AT MOST 1048576: true; the input reads as it did. -/
def frameRowsUptoRow : OpenClaim := { program := "ytmflcpkkeejjpaadoor", sum := "86aaaa64ae46048e302c9b308876fa32d467d4b01df1c8e656fe247a2924772a", func := "millrace/millracelaw02.FrameRows", spec := "frameRows", unfollowed := true, recurses := true, named := ["millrace/crc.steps"], apart := false, laid := [("millrace/crc.steps", laid_millrace_crc_steps)], narrowed := true }
def FrameRowsUptoSaid : Prop := frameRowsUptoRow.holds Tryd.pinned (OpenSpec.upto frameRowsSpec)

end Rows
end Go.Proofs.YtmflcpkkeejjpaaDoor
