/- What every card of this seat wants: the table of math/bits as the row's condition lays it, a start that meets the condition. -/
import Derived.Test.YtmhldbanjlccmaaDoorRows
import Derived.Test.YtmhldbanjlccmaaDoorLeaf
import Derived.ProofKit
import Derived.LaidMore
import Derived.OpenShut
import Derived.Lib.LaidTab
namespace Go.Proofs.YtmhldbanjlccmaaDoor
open Go.ChangeShapes Go.WideShapes Go.ChangeAt Go.RowKit

theorem own : ownKnob Tryd.prog.godebug = none := by kernel_rfl
theorem laidOut : laidOutB Tryd.prog = true := by kernel_rfl
/-- The table's name, as the given rows have it. -/
def tabName : String := (Rows.maskRunsRow.named).headD (String.ofList [])
theorem gTab : Tryd.prog.globalNamed tabName = some 0 := by kernel_rfl
theorem tTab : (Tryd.prog.globals[0]?).map (·.type) = some 45 := by kernel_rfl

abbrev laid1 : List (String × DataW Unit) := Rows.maskRunsRow.laid
def tabInts : List Int := Lib.deBruijn64tab.map fun (n : Nat) => (n : Int)
theorem laid_eq : laid1 = [(tabName, Lib.tabData .u8 tabInts)] := by kernel_rfl

/-- The door's own heap meets the condition. -/
theorem door_met (os : Os) (args : Array Value) : laidMetH Tryd.prog laid1 ((World.doorLaid Tryd.prog 400 os).forCall (fun _ _ => 0) ⟨#[], args, []⟩).memory :=
  laidMetH_of_parts3 (fuel := 8) (laidMet_of_run' 8 (by kernel_rfl) (by kernel_rfl)) (by kernel_rfl) (by kernel_rfl)

/-- What the condition gives the walks: the table's cells. -/
theorem of_laid {W : World} (h : laidMetH Tryd.prog laid1 W) : Tab W := by
  rw [MakeChecks.laidMetH_plain _ _ _ (by kernel_rfl)] at h
  have h' : laidMet Tryd.prog [(tabName, Lib.tabData .u8 tabInts)] W := by
    rw [← laid_eq]; exact h
  have hT := Lib.tabIs_of_head gTab tTab Tryd.underlying45 Tryd.underlying5 (by kernel_rfl) (by kernel_rfl) h'
  have hc : ∀ j, j < 64 → W.cell? ⟨0, j, none⟩ = some (.int .u8 (Lib.deBruijn64tab.getD j 0 : Nat)) := by
    intro j hj
    have := hT.cell gTab j (by simpa [tabInts, Lib.deBruijn64tab] using hj)
    rw [this]
    congr 2
    simp only [tabInts, List.getD_eq_getElem?_getD, List.getElem?_map]
    cases Lib.deBruijn64tab[j]? <;> simp
  exact ⟨World.block_lt_of_cell? W ⟨0, 0, none⟩ (hc 0 (by decide)), hc⟩
end Go.Proofs.YtmhldbanjlccmaaDoor
