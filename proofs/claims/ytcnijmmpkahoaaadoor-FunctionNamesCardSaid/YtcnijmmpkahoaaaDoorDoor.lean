/-
  The heap in which the rows' list is laid meets it. Nothing is claimed here by itself.
-/
import Derived.Test.YtcnijmmpkahoaaaDoorLaidIn
import Derived.Lay
namespace Go.Proofs.YtcnijmmpkahoaaaDoor
open Go.RowKit Go.Lib

theorem door_met (os : Os) (args : Array Value) : laidMetH Tryd.prog Rows.functionTellsRow.laid ((World.laidAll Tryd.prog os Rows.functionTellsRow.laid).forCall (fun _ _ => 0) ⟨#[], args, []⟩).memory := by
  rw [MakeChecks.laidMetH_plain _ _ _ (by kernel_rfl)]
  exact laidMet_laidAll _ (by kernel_rfl) (by kernel_rfl)
theorem door_shaped (os : Os) (args : Array Value) : ((World.laidAll Tryd.prog os Rows.functionTellsRow.laid).forCall (fun _ _ => 0) ⟨#[], args, []⟩).Shaped Tryd.prog := World.shaped_of_ZipB (by kernel_rfl) (by kernel_rfl)
end Go.Proofs.YtcnijmmpkahoaaaDoor
