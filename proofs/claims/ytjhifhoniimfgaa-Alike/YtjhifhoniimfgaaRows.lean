/-
  No cell of these rows narrows 'for every input' (looked for: loops, veiled, ifaces, maps, wideKeys, modest, calm, conditions, laid).
  DERIVED. THE GIVEN ROWS OF THIS SEAT. 5 by the template 'for every input the law returns true; each argument reads behind the call as it read before'; 0 by the template 'total and deterministic' (their statements: YtjhifhoniimfgaaTotals.lean).
  GIVEN WITH THE SEED: the statements are not yours to turn. If you find one false, say at which input.
  Laid BY PROGRAM, IN A SANDBOX (cutbox-rows.mjs): the forced cells as the released guide's own fill.sh prints them over the translation 8a05bf9bc532b600… (all of the seat's roots in one cut). By AI agents, Wed Nov 11 2026. No macro, syntax, notation, axiom, sorry.
-/
import Derived.Test.YtjhifhoniimfgaaChecked
import GoSem.Claim
import GoSem.ClaimJoined
import GoSem.ClaimMapViews
import Derived.JoinedTies
import Derived.KernelRfl
namespace Go.Proofs.Ytjhifhoniimfgaa
/- THE CELL 'sum', in the pinned program and in every row, IS THE sha256 OF THE DUMP (.gsa) THAT YtjhifhoniimfgaaProg.lean LOADS. Nothing in Lean hashes anything: it is a label: what it is worth is what the hold of that sum in a sandbox is worth. -/
noncomputable def Try.pinned : Pinned := { name := "ytjhifhoniimfgaa", sum := "8a05bf9bc532b60001dd962646495e650ba38856e3697c7feccf923996f887bd", checked := Try.checked }
namespace Rows
def none {H : Type} : Left H := { results := [], args := [] }

/-- 'sluicekeep.Once': WHATEVER THE INPUT: true; the input reads as it did. -/
def onceSpec : ChangeSpec := { name := "once", fn := fun _ => fun
  | [d1, d2] => { results := [.lit (.bool true)], args := [d1, d2] }
  | _ => none }
def onceRow : OpenClaim := { program := "ytjhifhoniimfgaa", sum := "8a05bf9bc532b60001dd962646495e650ba38856e3697c7feccf923996f887bd", func := "sluice/sluicekeep.Once", spec := "once", unfollowed := true, recurses := true, apart := false }
def OnceSaid : Prop := onceRow.holds Try.pinned (OpenSpec.ofChange onceSpec)

/-- ITS FALSE NEIGHBOUR: 'it returns false'. Refute it at one input. -/
def onceWrong : ChangeSpec := { name := "once", fn := fun _ => fun
  | [d1, d2] => { results := [.lit (.bool false)], args := [d1, d2] }
  | _ => none }
def OnceWrongFalsely : Prop := onceRow.holds Try.pinned (OpenSpec.ofChange onceWrong)

/-- 'sluicekeep.Within': WHATEVER THE INPUT: true; the input reads as it did. -/
def withinSpec : ChangeSpec := { name := "within", fn := fun _ => fun
  | [d1, d2] => { results := [.lit (.bool true)], args := [d1, d2] }
  | _ => none }
def withinRow : OpenClaim := { program := "ytjhifhoniimfgaa", sum := "8a05bf9bc532b60001dd962646495e650ba38856e3697c7feccf923996f887bd", func := "sluice/sluicekeep.Within", spec := "within", unfollowed := true, recurses := true, apart := false }
def WithinSaid : Prop := withinRow.holds Try.pinned (OpenSpec.ofChange withinSpec)

/-- ITS FALSE NEIGHBOUR: 'it returns false'. Refute it at one input. -/
def withinWrong : ChangeSpec := { name := "within", fn := fun _ => fun
  | [d1, d2] => { results := [.lit (.bool false)], args := [d1, d2] }
  | _ => none }
def WithinWrongFalsely : Prop := withinRow.holds Try.pinned (OpenSpec.ofChange withinWrong)

/-- 'sluicekeep.Stops': WHATEVER THE INPUT: true; the input reads as it did. -/
def stopsSpec : ChangeSpec := { name := "stops", fn := fun _ => fun
  | [d1, d2, d3, d4] => { results := [.lit (.bool true)], args := [d1, d2, d3, d4] }
  | _ => none }
def stopsRow : OpenClaim := { program := "ytjhifhoniimfgaa", sum := "8a05bf9bc532b60001dd962646495e650ba38856e3697c7feccf923996f887bd", func := "sluice/sluicekeep.Stops", spec := "stops", unfollowed := true, recurses := true, apart := false }
def StopsSaid : Prop := stopsRow.holds Try.pinned (OpenSpec.ofChange stopsSpec)

/-- ITS FALSE NEIGHBOUR: 'it returns false'. Refute it at one input. -/
def stopsWrong : ChangeSpec := { name := "stops", fn := fun _ => fun
  | [d1, d2, d3, d4] => { results := [.lit (.bool false)], args := [d1, d2, d3, d4] }
  | _ => none }
def StopsWrongFalsely : Prop := stopsRow.holds Try.pinned (OpenSpec.ofChange stopsWrong)

/-- 'sluicekeep.Latched': WHATEVER THE INPUT: true; the input reads as it did. -/
def latchedSpec : ChangeSpec := { name := "latched", fn := fun _ => fun
  | [d1, d2, d3] => { results := [.lit (.bool true)], args := [d1, d2, d3] }
  | _ => none }
def latchedRow : OpenClaim := { program := "ytjhifhoniimfgaa", sum := "8a05bf9bc532b60001dd962646495e650ba38856e3697c7feccf923996f887bd", func := "sluice/sluicekeep.Latched", spec := "latched", unfollowed := true, recurses := true, apart := false }
def LatchedSaid : Prop := latchedRow.holds Try.pinned (OpenSpec.ofChange latchedSpec)

/-- ITS FALSE NEIGHBOUR: 'it returns false'. Refute it at one input. -/
def latchedWrong : ChangeSpec := { name := "latched", fn := fun _ => fun
  | [d1, d2, d3] => { results := [.lit (.bool false)], args := [d1, d2, d3] }
  | _ => none }
def LatchedWrongFalsely : Prop := latchedRow.holds Try.pinned (OpenSpec.ofChange latchedWrong)

/-- 'sluicekeep.Alike': WHATEVER THE INPUT: true; the input reads as it did. -/
def alikeSpec : ChangeSpec := { name := "alike", fn := fun _ => fun
  | [d1, d2, d3] => { results := [.lit (.bool true)], args := [d1, d2, d3] }
  | _ => none }
def alikeRow : OpenClaim := { program := "ytjhifhoniimfgaa", sum := "8a05bf9bc532b60001dd962646495e650ba38856e3697c7feccf923996f887bd", func := "sluice/sluicekeep.Alike", spec := "alike", unfollowed := true, recurses := true, apart := false }
def AlikeSaid : Prop := alikeRow.holds Try.pinned (OpenSpec.ofChange alikeSpec)

/-- ITS FALSE NEIGHBOUR: 'it returns false'. Refute it at one input. -/
def alikeWrong : ChangeSpec := { name := "alike", fn := fun _ => fun
  | [d1, d2, d3] => { results := [.lit (.bool false)], args := [d1, d2, d3] }
  | _ => none }
def AlikeWrongFalsely : Prop := alikeRow.holds Try.pinned (OpenSpec.ofChange alikeWrong)

/- THE SECOND FORM. 'bulk': how many values and letters a reading holds, each counted each time it is reached (what is shared counts as often as it is met; a slice's spare places count too). A statement '..UptoSaid' is the law's where the arguments, and the package variables that the reading takes, are together of bulk at most 1048576: NARROWER than '..Said'. Prove '..Said' where nothing that the law and all that it calls make is longer than what came in: it says more and counts as full. Else prove '..UptoSaid'. A law counts once. -/
mutual
def uptoBulk {H : Type} : DataW H → Nat
  | .lit (.string bytes) => bytes.length + 1
  | .lit _ => 1
  | .nil => 1
  | .ptr d => uptoBulk d + 1
  | .slice elems spare => uptoBulkAll elems + uptoBulkAll spare + 1
  | .agg parts => uptoBulkAll parts + 1
  | .iface _ d => uptoBulk d + 1
  | .map entries => uptoBulkEntries entries + 1
  | .held _ => 1
def uptoBulkAll {H : Type} : List (DataW H) → Nat
  | [] => 0
  | d :: r => uptoBulk d + uptoBulkAll r
def uptoBulkEntries {H : Type} : List (Lit × DataW H) → Nat
  | [] => 0
  | x :: r => uptoBulkEntry x + uptoBulkEntries r
def uptoBulkEntry {H : Type} : Lit × DataW H → Nat
  | (.string bytes, d) => bytes.length + uptoBulk d + 1
  | (_, d) => uptoBulk d + 1
 end
def uptoSmall : (H : Type) → List (DataW H) → Bool := fun _ ds => decide (uptoBulkAll ds ≤ 1048576)
def OpenSpec.upto (s : _root_.Go.ChangeSpec) : _root_.Go.OpenSpec := { _root_.Go.OpenSpec.ofChange s with cond := some uptoSmall }

/-- 'sluicekeep.Once', WHERE WHAT IT READS IS OF BULK AT MOST 1048576: true; the input reads as it did. -/
def onceUptoRow : OpenClaim := { program := "ytjhifhoniimfgaa", sum := "8a05bf9bc532b60001dd962646495e650ba38856e3697c7feccf923996f887bd", func := "sluice/sluicekeep.Once", spec := "once", unfollowed := true, recurses := true, apart := false, narrowed := true }
def OnceUptoSaid : Prop := onceUptoRow.holds Try.pinned (OpenSpec.upto onceSpec)

/-- 'sluicekeep.Within', WHERE WHAT IT READS IS OF BULK AT MOST 1048576: true; the input reads as it did. -/
def withinUptoRow : OpenClaim := { program := "ytjhifhoniimfgaa", sum := "8a05bf9bc532b60001dd962646495e650ba38856e3697c7feccf923996f887bd", func := "sluice/sluicekeep.Within", spec := "within", unfollowed := true, recurses := true, apart := false, narrowed := true }
def WithinUptoSaid : Prop := withinUptoRow.holds Try.pinned (OpenSpec.upto withinSpec)

/-- 'sluicekeep.Stops', WHERE WHAT IT READS IS OF BULK AT MOST 1048576: true; the input reads as it did. -/
def stopsUptoRow : OpenClaim := { program := "ytjhifhoniimfgaa", sum := "8a05bf9bc532b60001dd962646495e650ba38856e3697c7feccf923996f887bd", func := "sluice/sluicekeep.Stops", spec := "stops", unfollowed := true, recurses := true, apart := false, narrowed := true }
def StopsUptoSaid : Prop := stopsUptoRow.holds Try.pinned (OpenSpec.upto stopsSpec)

/-- 'sluicekeep.Latched', WHERE WHAT IT READS IS OF BULK AT MOST 1048576: true; the input reads as it did. -/
def latchedUptoRow : OpenClaim := { program := "ytjhifhoniimfgaa", sum := "8a05bf9bc532b60001dd962646495e650ba38856e3697c7feccf923996f887bd", func := "sluice/sluicekeep.Latched", spec := "latched", unfollowed := true, recurses := true, apart := false, narrowed := true }
def LatchedUptoSaid : Prop := latchedUptoRow.holds Try.pinned (OpenSpec.upto latchedSpec)

/-- 'sluicekeep.Alike', WHERE WHAT IT READS IS OF BULK AT MOST 1048576: true; the input reads as it did. -/
def alikeUptoRow : OpenClaim := { program := "ytjhifhoniimfgaa", sum := "8a05bf9bc532b60001dd962646495e650ba38856e3697c7feccf923996f887bd", func := "sluice/sluicekeep.Alike", spec := "alike", unfollowed := true, recurses := true, apart := false, narrowed := true }
def AlikeUptoSaid : Prop := alikeUptoRow.holds Try.pinned (OpenSpec.upto alikeSpec)

end Rows
end Go.Proofs.Ytjhifhoniimfgaa
