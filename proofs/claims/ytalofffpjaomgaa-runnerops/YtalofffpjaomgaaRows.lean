/-
  No cell of these rows narrows 'for every input' (looked for: loops, veiled, ifaces, maps, wideKeys, modest, calm, conditions, laid).
  DERIVED. THE GIVEN ROWS OF THIS SEAT. 6 by the template 'for every input the law returns true; each argument reads behind the call as it read before'; 0 by the template 'total and deterministic' (their statements: YtalofffpjaomgaaTotals.lean).
  GIVEN WITH THE SEED: the statements are not yours to turn. If you find one false, say at which input.
  Laid BY PROGRAM, IN A SANDBOX (cutbox-rows.mjs): the forced cells as the released guide's own fill.sh prints them over the translation 34b04615e15f4383… (all of the seat's roots in one cut). By AI agents, Wed Nov 11 2026. No macro, syntax, notation, axiom, sorry.
-/
import Derived.Test.YtalofffpjaomgaaChecked
import GoSem.Claim
import GoSem.ClaimJoined
import GoSem.ClaimMapViews
import Derived.JoinedTies
import Derived.KernelRfl
namespace Go.Proofs.Ytalofffpjaomgaa
/- THE CELL 'sum', in the pinned program and in every row, IS THE sha256 OF THE DUMP (.gsa) THAT YtalofffpjaomgaaProg.lean LOADS. Nothing in Lean hashes anything: it is a label: what it is worth is what the hold of that sum in a sandbox is worth. -/
noncomputable def Try.pinned : Pinned := { name := "ytalofffpjaomgaa", sum := "34b04615e15f43836240cd6301de97f219b139b1c5d22c2fe20363ae15de19d9", checked := Try.checked }
namespace Rows
def none {H : Type} : Left H := { results := [], args := [] }

/-- 'cordonlaw10.RunnerRuns': WHATEVER THE INPUT: true; the input reads as it did. -/
def runnerRunsSpec : ChangeSpec := { name := "runnerRuns", fn := fun _ => fun
  | [] => { results := [.lit (.bool true)], args := [] }
  | _ => none }
def runnerRunsRow : OpenClaim := { program := "ytalofffpjaomgaa", sum := "34b04615e15f43836240cd6301de97f219b139b1c5d22c2fe20363ae15de19d9", func := "cordon/cordonlaw10.RunnerRuns", spec := "runnerRuns", inPlace := ["slices.overlaps[cordon/panes.pane]"], unfollowed := true, recurses := true, plainKeys := false, apart := false }
def RunnerRunsSaid : Prop := runnerRunsRow.holds Try.pinned (OpenSpec.ofChange runnerRunsSpec)

/-- ITS FALSE NEIGHBOUR: 'it returns false'. Refute it at one input. -/
def runnerRunsWrong : ChangeSpec := { name := "runnerRuns", fn := fun _ => fun
  | [] => { results := [.lit (.bool false)], args := [] }
  | _ => none }
def RunnerRunsWrongFalsely : Prop := runnerRunsRow.holds Try.pinned (OpenSpec.ofChange runnerRunsWrong)

/-- 'cordonlaw10.RunnerTakes': WHATEVER THE INPUT: true; the input reads as it did. -/
def runnerTakesSpec : ChangeSpec := { name := "runnerTakes", fn := fun _ => fun
  | [d1, d2, d3, d4] => { results := [.lit (.bool true)], args := [d1, d2, d3, d4] }
  | _ => none }
def runnerTakesRow : OpenClaim := { program := "ytalofffpjaomgaa", sum := "34b04615e15f43836240cd6301de97f219b139b1c5d22c2fe20363ae15de19d9", func := "cordon/cordonlaw10.RunnerTakes", spec := "runnerTakes", inPlace := ["slices.overlaps[cordon/panes.pane]"], unfollowed := true, recurses := true, plainKeys := false, apart := false }
def RunnerTakesSaid : Prop := runnerTakesRow.holds Try.pinned (OpenSpec.ofChange runnerTakesSpec)

/-- ITS FALSE NEIGHBOUR: 'it returns false'. Refute it at one input. -/
def runnerTakesWrong : ChangeSpec := { name := "runnerTakes", fn := fun _ => fun
  | [d1, d2, d3, d4] => { results := [.lit (.bool false)], args := [d1, d2, d3, d4] }
  | _ => none }
def RunnerTakesWrongFalsely : Prop := runnerTakesRow.holds Try.pinned (OpenSpec.ofChange runnerTakesWrong)

/-- 'cordonlaw10.RunnerParts': WHATEVER THE INPUT: true; the input reads as it did. -/
def runnerPartsSpec : ChangeSpec := { name := "runnerParts", fn := fun _ => fun
  | [d1, d2, d3] => { results := [.lit (.bool true)], args := [d1, d2, d3] }
  | _ => none }
def runnerPartsRow : OpenClaim := { program := "ytalofffpjaomgaa", sum := "34b04615e15f43836240cd6301de97f219b139b1c5d22c2fe20363ae15de19d9", func := "cordon/cordonlaw10.RunnerParts", spec := "runnerParts", inPlace := ["slices.overlaps[cordon/panes.pane]"], unfollowed := true, recurses := true, plainKeys := false, apart := false }
def RunnerPartsSaid : Prop := runnerPartsRow.holds Try.pinned (OpenSpec.ofChange runnerPartsSpec)

/-- ITS FALSE NEIGHBOUR: 'it returns false'. Refute it at one input. -/
def runnerPartsWrong : ChangeSpec := { name := "runnerParts", fn := fun _ => fun
  | [d1, d2, d3] => { results := [.lit (.bool false)], args := [d1, d2, d3] }
  | _ => none }
def RunnerPartsWrongFalsely : Prop := runnerPartsRow.holds Try.pinned (OpenSpec.ofChange runnerPartsWrong)

/-- 'cordonlaw10.RunnerLate': WHATEVER THE INPUT: true; the input reads as it did. -/
def runnerLateSpec : ChangeSpec := { name := "runnerLate", fn := fun _ => fun
  | [d1, d2, d3, d4] => { results := [.lit (.bool true)], args := [d1, d2, d3, d4] }
  | _ => none }
def runnerLateRow : OpenClaim := { program := "ytalofffpjaomgaa", sum := "34b04615e15f43836240cd6301de97f219b139b1c5d22c2fe20363ae15de19d9", func := "cordon/cordonlaw10.RunnerLate", spec := "runnerLate", inPlace := ["slices.overlaps[cordon/panes.pane]"], unfollowed := true, recurses := true, plainKeys := false, apart := false }
def RunnerLateSaid : Prop := runnerLateRow.holds Try.pinned (OpenSpec.ofChange runnerLateSpec)

/-- ITS FALSE NEIGHBOUR: 'it returns false'. Refute it at one input. -/
def runnerLateWrong : ChangeSpec := { name := "runnerLate", fn := fun _ => fun
  | [d1, d2, d3, d4] => { results := [.lit (.bool false)], args := [d1, d2, d3, d4] }
  | _ => none }
def RunnerLateWrongFalsely : Prop := runnerLateRow.holds Try.pinned (OpenSpec.ofChange runnerLateWrong)

/-- 'cordonlaw10.RunnerOps': WHATEVER THE INPUT: true; the input reads as it did. -/
def runnerOpsSpec : ChangeSpec := { name := "runnerOps", fn := fun _ => fun
  | [d1, d2] => { results := [.lit (.bool true)], args := [d1, d2] }
  | _ => none }
def runnerOpsRow : OpenClaim := { program := "ytalofffpjaomgaa", sum := "34b04615e15f43836240cd6301de97f219b139b1c5d22c2fe20363ae15de19d9", func := "cordon/cordonlaw10.RunnerOps", spec := "runnerOps", inPlace := ["slices.overlaps[cordon/panes.pane]"], unfollowed := true, recurses := true, plainKeys := false, apart := false }
def RunnerOpsSaid : Prop := runnerOpsRow.holds Try.pinned (OpenSpec.ofChange runnerOpsSpec)

/-- ITS FALSE NEIGHBOUR: 'it returns false'. Refute it at one input. -/
def runnerOpsWrong : ChangeSpec := { name := "runnerOps", fn := fun _ => fun
  | [d1, d2] => { results := [.lit (.bool false)], args := [d1, d2] }
  | _ => none }
def RunnerOpsWrongFalsely : Prop := runnerOpsRow.holds Try.pinned (OpenSpec.ofChange runnerOpsWrong)

/-- 'cordonlaw10.RunnerKeys': WHATEVER THE INPUT: true; the input reads as it did. -/
def runnerKeysSpec : ChangeSpec := { name := "runnerKeys", fn := fun _ => fun
  | [d1, d2, d3] => { results := [.lit (.bool true)], args := [d1, d2, d3] }
  | _ => none }
def runnerKeysRow : OpenClaim := { program := "ytalofffpjaomgaa", sum := "34b04615e15f43836240cd6301de97f219b139b1c5d22c2fe20363ae15de19d9", func := "cordon/cordonlaw10.RunnerKeys", spec := "runnerKeys", inPlace := ["slices.overlaps[cordon/panes.pane]"], unfollowed := true, recurses := true, plainKeys := false, apart := false }
def RunnerKeysSaid : Prop := runnerKeysRow.holds Try.pinned (OpenSpec.ofChange runnerKeysSpec)

/-- ITS FALSE NEIGHBOUR: 'it returns false'. Refute it at one input. -/
def runnerKeysWrong : ChangeSpec := { name := "runnerKeys", fn := fun _ => fun
  | [d1, d2, d3] => { results := [.lit (.bool false)], args := [d1, d2, d3] }
  | _ => none }
def RunnerKeysWrongFalsely : Prop := runnerKeysRow.holds Try.pinned (OpenSpec.ofChange runnerKeysWrong)

/- THE SECOND FORM. 'bulk': how many values and letters a reading holds, each counted each time it is reached (what is shared counts as often as it is met; a slice's spare places count too). A statement '..UptoSaid' is the law's where the arguments, and the package variables that the reading takes, are together of bulk at most 1048576: NARROWER than '..Said'. Prove '..Said' where nothing that the law and all that it calls make is longer than what came in: it says more and counts as full. Else prove '..UptoSaid'. A law counts once. -/
mutual
def uptoBulk {H : Type} : DataW H → Nat
  | .lit (.string bytes) => bytes.length + 1
  | .lit _ => 1
  | .nil => 1
  | .ptr d => uptoBulk d + 1
  | .slice elems spare => uptoBulkAll elems + uptoBulkAll spare + 1
  | .agg parts => uptoBulkAll parts + 1
  | .iface _ d => uptoBulk d + 1
  | .map entries => uptoBulkEntries entries + 1
  | .held _ => 1
def uptoBulkAll {H : Type} : List (DataW H) → Nat
  | [] => 0
  | d :: r => uptoBulk d + uptoBulkAll r
def uptoBulkEntries {H : Type} : List (Lit × DataW H) → Nat
  | [] => 0
  | x :: r => uptoBulkEntry x + uptoBulkEntries r
def uptoBulkEntry {H : Type} : Lit × DataW H → Nat
  | (.string bytes, d) => bytes.length + uptoBulk d + 1
  | (_, d) => uptoBulk d + 1
 end
def uptoSmall : (H : Type) → List (DataW H) → Bool := fun _ ds => decide (uptoBulkAll ds ≤ 1048576)
def OpenSpec.upto (s : _root_.Go.ChangeSpec) : _root_.Go.OpenSpec := { _root_.Go.OpenSpec.ofChange s with cond := some uptoSmall }

/-- 'cordonlaw10.RunnerRuns', WHERE WHAT IT READS IS OF BULK AT MOST 1048576: true; the input reads as it did. -/
def runnerRunsUptoRow : OpenClaim := { program := "ytalofffpjaomgaa", sum := "34b04615e15f43836240cd6301de97f219b139b1c5d22c2fe20363ae15de19d9", func := "cordon/cordonlaw10.RunnerRuns", spec := "runnerRuns", inPlace := ["slices.overlaps[cordon/panes.pane]"], unfollowed := true, recurses := true, plainKeys := false, apart := false, narrowed := true }
def RunnerRunsUptoSaid : Prop := runnerRunsUptoRow.holds Try.pinned (OpenSpec.upto runnerRunsSpec)

/-- 'cordonlaw10.RunnerTakes', WHERE WHAT IT READS IS OF BULK AT MOST 1048576: true; the input reads as it did. -/
def runnerTakesUptoRow : OpenClaim := { program := "ytalofffpjaomgaa", sum := "34b04615e15f43836240cd6301de97f219b139b1c5d22c2fe20363ae15de19d9", func := "cordon/cordonlaw10.RunnerTakes", spec := "runnerTakes", inPlace := ["slices.overlaps[cordon/panes.pane]"], unfollowed := true, recurses := true, plainKeys := false, apart := false, narrowed := true }
def RunnerTakesUptoSaid : Prop := runnerTakesUptoRow.holds Try.pinned (OpenSpec.upto runnerTakesSpec)

/-- 'cordonlaw10.RunnerParts', WHERE WHAT IT READS IS OF BULK AT MOST 1048576: true; the input reads as it did. -/
def runnerPartsUptoRow : OpenClaim := { program := "ytalofffpjaomgaa", sum := "34b04615e15f43836240cd6301de97f219b139b1c5d22c2fe20363ae15de19d9", func := "cordon/cordonlaw10.RunnerParts", spec := "runnerParts", inPlace := ["slices.overlaps[cordon/panes.pane]"], unfollowed := true, recurses := true, plainKeys := false, apart := false, narrowed := true }
def RunnerPartsUptoSaid : Prop := runnerPartsUptoRow.holds Try.pinned (OpenSpec.upto runnerPartsSpec)

/-- 'cordonlaw10.RunnerLate', WHERE WHAT IT READS IS OF BULK AT MOST 1048576: true; the input reads as it did. -/
def runnerLateUptoRow : OpenClaim := { program := "ytalofffpjaomgaa", sum := "34b04615e15f43836240cd6301de97f219b139b1c5d22c2fe20363ae15de19d9", func := "cordon/cordonlaw10.RunnerLate", spec := "runnerLate", inPlace := ["slices.overlaps[cordon/panes.pane]"], unfollowed := true, recurses := true, plainKeys := false, apart := false, narrowed := true }
def RunnerLateUptoSaid : Prop := runnerLateUptoRow.holds Try.pinned (OpenSpec.upto runnerLateSpec)

/-- 'cordonlaw10.RunnerOps', WHERE WHAT IT READS IS OF BULK AT MOST 1048576: true; the input reads as it did. -/
def runnerOpsUptoRow : OpenClaim := { program := "ytalofffpjaomgaa", sum := "34b04615e15f43836240cd6301de97f219b139b1c5d22c2fe20363ae15de19d9", func := "cordon/cordonlaw10.RunnerOps", spec := "runnerOps", inPlace := ["slices.overlaps[cordon/panes.pane]"], unfollowed := true, recurses := true, plainKeys := false, apart := false, narrowed := true }
def RunnerOpsUptoSaid : Prop := runnerOpsUptoRow.holds Try.pinned (OpenSpec.upto runnerOpsSpec)

/-- 'cordonlaw10.RunnerKeys', WHERE WHAT IT READS IS OF BULK AT MOST 1048576: true; the input reads as it did. -/
def runnerKeysUptoRow : OpenClaim := { program := "ytalofffpjaomgaa", sum := "34b04615e15f43836240cd6301de97f219b139b1c5d22c2fe20363ae15de19d9", func := "cordon/cordonlaw10.RunnerKeys", spec := "runnerKeys", inPlace := ["slices.overlaps[cordon/panes.pane]"], unfollowed := true, recurses := true, plainKeys := false, apart := false, narrowed := true }
def RunnerKeysUptoSaid : Prop := runnerKeysUptoRow.holds Try.pinned (OpenSpec.upto runnerKeysSpec)

end Rows
end Go.Proofs.Ytalofffpjaomgaa
