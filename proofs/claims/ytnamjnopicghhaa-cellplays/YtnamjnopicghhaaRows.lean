/-
  No cell of these rows narrows 'for every input' (looked for: loops, veiled, ifaces, maps, wideKeys, modest, calm, conditions, laid).
  DERIVED. THE GIVEN ROWS OF THIS SEAT. 6 by the template 'for every input the law returns true; each argument reads behind the call as it read before'; 0 by the template 'total and deterministic' (their statements: YtnamjnopicghhaaTotals.lean).
  GIVEN WITH THE SEED: the statements are not yours to turn. If you find one false, say at which input.
  Laid BY PROGRAM, IN A SANDBOX (cutbox-rows.mjs): the forced cells as the released guide's own fill.sh prints them over the translation 7a3695729035332f… (all of the seat's roots in one cut). By AI agents, Wed Nov 11 2026. No macro, syntax, notation, axiom, sorry.
-/
import Derived.Test.YtnamjnopicghhaaChecked
import GoSem.Claim
import GoSem.ClaimJoined
import GoSem.ClaimMapViews
import Derived.JoinedTies
import Derived.KernelRfl
namespace Go.Proofs.Ytnamjnopicghhaa
/- THE CELL 'sum', in the pinned program and in every row, IS THE sha256 OF THE DUMP (.gsa) THAT YtnamjnopicghhaaProg.lean LOADS. Nothing in Lean hashes anything: it is a label: what it is worth is what the hold of that sum in a sandbox is worth. -/
noncomputable def Try.pinned : Pinned := { name := "ytnamjnopicghhaa", sum := "7a3695729035332f43d0a3b281994cb14338348fa7a084321245e51a8e37a9b7", checked := Try.checked }
namespace Rows
def none {H : Type} : Left H := { results := [], args := [] }

/-- 'cordonlaw15.CellRuns': WHATEVER THE INPUT: true; the input reads as it did. -/
def cellRunsSpec : ChangeSpec := { name := "cellRuns", fn := fun _ => fun
  | [] => { results := [.lit (.bool true)], args := [] }
  | _ => none }
def cellRunsRow : OpenClaim := { program := "ytnamjnopicghhaa", sum := "7a3695729035332f43d0a3b281994cb14338348fa7a084321245e51a8e37a9b7", func := "cordon/cordonlaw15.CellRuns", spec := "cellRuns", inPlace := ["slices.overlaps[cordon/panes.pane]"], unfollowed := true, recurses := true, apart := false }
def CellRunsSaid : Prop := cellRunsRow.holds Try.pinned (OpenSpec.ofChange cellRunsSpec)

/-- ITS FALSE NEIGHBOUR: 'it returns false'. Refute it at one input. -/
def cellRunsWrong : ChangeSpec := { name := "cellRuns", fn := fun _ => fun
  | [] => { results := [.lit (.bool false)], args := [] }
  | _ => none }
def CellRunsWrongFalsely : Prop := cellRunsRow.holds Try.pinned (OpenSpec.ofChange cellRunsWrong)

/-- 'cordonlaw15.CellPlays': WHATEVER THE INPUT: true; the input reads as it did. -/
def cellPlaysSpec : ChangeSpec := { name := "cellPlays", fn := fun _ => fun
  | [d1, d2, d3, d4] => { results := [.lit (.bool true)], args := [d1, d2, d3, d4] }
  | _ => none }
def cellPlaysRow : OpenClaim := { program := "ytnamjnopicghhaa", sum := "7a3695729035332f43d0a3b281994cb14338348fa7a084321245e51a8e37a9b7", func := "cordon/cordonlaw15.CellPlays", spec := "cellPlays", inPlace := ["slices.overlaps[cordon/panes.pane]"], unfollowed := true, recurses := true, apart := false }
def CellPlaysSaid : Prop := cellPlaysRow.holds Try.pinned (OpenSpec.ofChange cellPlaysSpec)

/-- ITS FALSE NEIGHBOUR: 'it returns false'. Refute it at one input. -/
def cellPlaysWrong : ChangeSpec := { name := "cellPlays", fn := fun _ => fun
  | [d1, d2, d3, d4] => { results := [.lit (.bool false)], args := [d1, d2, d3, d4] }
  | _ => none }
def CellPlaysWrongFalsely : Prop := cellPlaysRow.holds Try.pinned (OpenSpec.ofChange cellPlaysWrong)

/-- 'cordonlaw15.CellServes': WHATEVER THE INPUT: true; the input reads as it did. -/
def cellServesSpec : ChangeSpec := { name := "cellServes", fn := fun _ => fun
  | [d1, d2, d3, d4] => { results := [.lit (.bool true)], args := [d1, d2, d3, d4] }
  | _ => none }
def cellServesRow : OpenClaim := { program := "ytnamjnopicghhaa", sum := "7a3695729035332f43d0a3b281994cb14338348fa7a084321245e51a8e37a9b7", func := "cordon/cordonlaw15.CellServes", spec := "cellServes", inPlace := ["slices.overlaps[cordon/panes.pane]"], unfollowed := true, recurses := true, apart := false }
def CellServesSaid : Prop := cellServesRow.holds Try.pinned (OpenSpec.ofChange cellServesSpec)

/-- ITS FALSE NEIGHBOUR: 'it returns false'. Refute it at one input. -/
def cellServesWrong : ChangeSpec := { name := "cellServes", fn := fun _ => fun
  | [d1, d2, d3, d4] => { results := [.lit (.bool false)], args := [d1, d2, d3, d4] }
  | _ => none }
def CellServesWrongFalsely : Prop := cellServesRow.holds Try.pinned (OpenSpec.ofChange cellServesWrong)

/-- 'cordonlaw15.CellFed': WHATEVER THE INPUT: true; the input reads as it did. -/
def cellFedSpec : ChangeSpec := { name := "cellFed", fn := fun _ => fun
  | [d1, d2, d3, d4] => { results := [.lit (.bool true)], args := [d1, d2, d3, d4] }
  | _ => none }
def cellFedRow : OpenClaim := { program := "ytnamjnopicghhaa", sum := "7a3695729035332f43d0a3b281994cb14338348fa7a084321245e51a8e37a9b7", func := "cordon/cordonlaw15.CellFed", spec := "cellFed", inPlace := ["slices.overlaps[cordon/panes.pane]"], unfollowed := true, recurses := true, apart := false }
def CellFedSaid : Prop := cellFedRow.holds Try.pinned (OpenSpec.ofChange cellFedSpec)

/-- ITS FALSE NEIGHBOUR: 'it returns false'. Refute it at one input. -/
def cellFedWrong : ChangeSpec := { name := "cellFed", fn := fun _ => fun
  | [d1, d2, d3, d4] => { results := [.lit (.bool false)], args := [d1, d2, d3, d4] }
  | _ => none }
def CellFedWrongFalsely : Prop := cellFedRow.holds Try.pinned (OpenSpec.ofChange cellFedWrong)

/-- 'cordonlaw15.CellLabels': WHATEVER THE INPUT: true; the input reads as it did. -/
def cellLabelsSpec : ChangeSpec := { name := "cellLabels", fn := fun _ => fun
  | [d1, d2, d3, d4] => { results := [.lit (.bool true)], args := [d1, d2, d3, d4] }
  | _ => none }
def cellLabelsRow : OpenClaim := { program := "ytnamjnopicghhaa", sum := "7a3695729035332f43d0a3b281994cb14338348fa7a084321245e51a8e37a9b7", func := "cordon/cordonlaw15.CellLabels", spec := "cellLabels", inPlace := ["slices.overlaps[cordon/panes.pane]"], unfollowed := true, recurses := true, apart := false }
def CellLabelsSaid : Prop := cellLabelsRow.holds Try.pinned (OpenSpec.ofChange cellLabelsSpec)

/-- ITS FALSE NEIGHBOUR: 'it returns false'. Refute it at one input. -/
def cellLabelsWrong : ChangeSpec := { name := "cellLabels", fn := fun _ => fun
  | [d1, d2, d3, d4] => { results := [.lit (.bool false)], args := [d1, d2, d3, d4] }
  | _ => none }
def CellLabelsWrongFalsely : Prop := cellLabelsRow.holds Try.pinned (OpenSpec.ofChange cellLabelsWrong)

/-- 'cordonlaw15.CellTwins': WHATEVER THE INPUT: true; the input reads as it did. -/
def cellTwinsSpec : ChangeSpec := { name := "cellTwins", fn := fun _ => fun
  | [d1, d2, d3, d4] => { results := [.lit (.bool true)], args := [d1, d2, d3, d4] }
  | _ => none }
def cellTwinsRow : OpenClaim := { program := "ytnamjnopicghhaa", sum := "7a3695729035332f43d0a3b281994cb14338348fa7a084321245e51a8e37a9b7", func := "cordon/cordonlaw15.CellTwins", spec := "cellTwins", inPlace := ["slices.overlaps[cordon/panes.pane]"], unfollowed := true, recurses := true, apart := false }
def CellTwinsSaid : Prop := cellTwinsRow.holds Try.pinned (OpenSpec.ofChange cellTwinsSpec)

/-- ITS FALSE NEIGHBOUR: 'it returns false'. Refute it at one input. -/
def cellTwinsWrong : ChangeSpec := { name := "cellTwins", fn := fun _ => fun
  | [d1, d2, d3, d4] => { results := [.lit (.bool false)], args := [d1, d2, d3, d4] }
  | _ => none }
def CellTwinsWrongFalsely : Prop := cellTwinsRow.holds Try.pinned (OpenSpec.ofChange cellTwinsWrong)

/- THE SECOND FORM. 'bulk': how many values and letters a reading holds, each counted each time it is reached (what is shared counts as often as it is met; a slice's spare places count too). A statement '..UptoSaid' is the law's where the arguments, and the package variables that the reading takes, are together of bulk at most 1048576: NARROWER than '..Said'. Prove '..Said' where nothing that the law and all that it calls make is longer than what came in: it says more and counts as full. Else prove '..UptoSaid'. A law counts once. -/
mutual
def uptoBulk {H : Type} : DataW H → Nat
  | .lit (.string bytes) => bytes.length + 1
  | .lit _ => 1
  | .nil => 1
  | .ptr d => uptoBulk d + 1
  | .slice elems spare => uptoBulkAll elems + uptoBulkAll spare + 1
  | .agg parts => uptoBulkAll parts + 1
  | .iface _ d => uptoBulk d + 1
  | .map entries => uptoBulkEntries entries + 1
  | .held _ => 1
def uptoBulkAll {H : Type} : List (DataW H) → Nat
  | [] => 0
  | d :: r => uptoBulk d + uptoBulkAll r
def uptoBulkEntries {H : Type} : List (Lit × DataW H) → Nat
  | [] => 0
  | x :: r => uptoBulkEntry x + uptoBulkEntries r
def uptoBulkEntry {H : Type} : Lit × DataW H → Nat
  | (.string bytes, d) => bytes.length + uptoBulk d + 1
  | (_, d) => uptoBulk d + 1
 end
def uptoSmall : (H : Type) → List (DataW H) → Bool := fun _ ds => decide (uptoBulkAll ds ≤ 1048576)
def OpenSpec.upto (s : _root_.Go.ChangeSpec) : _root_.Go.OpenSpec := { _root_.Go.OpenSpec.ofChange s with cond := some uptoSmall }

/-- 'cordonlaw15.CellRuns', WHERE WHAT IT READS IS OF BULK AT MOST 1048576: true; the input reads as it did. -/
def cellRunsUptoRow : OpenClaim := { program := "ytnamjnopicghhaa", sum := "7a3695729035332f43d0a3b281994cb14338348fa7a084321245e51a8e37a9b7", func := "cordon/cordonlaw15.CellRuns", spec := "cellRuns", inPlace := ["slices.overlaps[cordon/panes.pane]"], unfollowed := true, recurses := true, apart := false, narrowed := true }
def CellRunsUptoSaid : Prop := cellRunsUptoRow.holds Try.pinned (OpenSpec.upto cellRunsSpec)

/-- 'cordonlaw15.CellPlays', WHERE WHAT IT READS IS OF BULK AT MOST 1048576: true; the input reads as it did. -/
def cellPlaysUptoRow : OpenClaim := { program := "ytnamjnopicghhaa", sum := "7a3695729035332f43d0a3b281994cb14338348fa7a084321245e51a8e37a9b7", func := "cordon/cordonlaw15.CellPlays", spec := "cellPlays", inPlace := ["slices.overlaps[cordon/panes.pane]"], unfollowed := true, recurses := true, apart := false, narrowed := true }
def CellPlaysUptoSaid : Prop := cellPlaysUptoRow.holds Try.pinned (OpenSpec.upto cellPlaysSpec)

/-- 'cordonlaw15.CellServes', WHERE WHAT IT READS IS OF BULK AT MOST 1048576: true; the input reads as it did. -/
def cellServesUptoRow : OpenClaim := { program := "ytnamjnopicghhaa", sum := "7a3695729035332f43d0a3b281994cb14338348fa7a084321245e51a8e37a9b7", func := "cordon/cordonlaw15.CellServes", spec := "cellServes", inPlace := ["slices.overlaps[cordon/panes.pane]"], unfollowed := true, recurses := true, apart := false, narrowed := true }
def CellServesUptoSaid : Prop := cellServesUptoRow.holds Try.pinned (OpenSpec.upto cellServesSpec)

/-- 'cordonlaw15.CellFed', WHERE WHAT IT READS IS OF BULK AT MOST 1048576: true; the input reads as it did. -/
def cellFedUptoRow : OpenClaim := { program := "ytnamjnopicghhaa", sum := "7a3695729035332f43d0a3b281994cb14338348fa7a084321245e51a8e37a9b7", func := "cordon/cordonlaw15.CellFed", spec := "cellFed", inPlace := ["slices.overlaps[cordon/panes.pane]"], unfollowed := true, recurses := true, apart := false, narrowed := true }
def CellFedUptoSaid : Prop := cellFedUptoRow.holds Try.pinned (OpenSpec.upto cellFedSpec)

/-- 'cordonlaw15.CellLabels', WHERE WHAT IT READS IS OF BULK AT MOST 1048576: true; the input reads as it did. -/
def cellLabelsUptoRow : OpenClaim := { program := "ytnamjnopicghhaa", sum := "7a3695729035332f43d0a3b281994cb14338348fa7a084321245e51a8e37a9b7", func := "cordon/cordonlaw15.CellLabels", spec := "cellLabels", inPlace := ["slices.overlaps[cordon/panes.pane]"], unfollowed := true, recurses := true, apart := false, narrowed := true }
def CellLabelsUptoSaid : Prop := cellLabelsUptoRow.holds Try.pinned (OpenSpec.upto cellLabelsSpec)

/-- 'cordonlaw15.CellTwins', WHERE WHAT IT READS IS OF BULK AT MOST 1048576: true; the input reads as it did. -/
def cellTwinsUptoRow : OpenClaim := { program := "ytnamjnopicghhaa", sum := "7a3695729035332f43d0a3b281994cb14338348fa7a084321245e51a8e37a9b7", func := "cordon/cordonlaw15.CellTwins", spec := "cellTwins", inPlace := ["slices.overlaps[cordon/panes.pane]"], unfollowed := true, recurses := true, apart := false, narrowed := true }
def CellTwinsUptoSaid : Prop := cellTwinsUptoRow.holds Try.pinned (OpenSpec.upto cellTwinsSpec)

end Rows
end Go.Proofs.Ytnamjnopicghhaa
