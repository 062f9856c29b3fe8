/-
  What the rows' list of the library's variables gives to the walks. Nothing is claimed here by itself.
-/
import Derived.Test.YtlmhddaelfolfaaDoorRows
import Derived.Test.YtlmhddaelfolfaaDoorParses
import Derived.Stop.LaidErr
import Derived.Lib.LaidTab
import Derived.MakeChecks
import Derived.LaidMore
namespace Go.Proofs.YtlmhddaelfolfaaDoor
open Go.RowKit Go.Lib

theorem gPows : Tryd.prog.globalNamed "internal/strconv.uint64pow10" = some 3 := by kernel_rfl
theorem gPowsT : (Tryd.prog.globals[3]?).map (·.type) = some 93 := by kernel_rfl
theorem gSyn : Tryd.prog.globalNamed "strconv.ErrSyntax" = some 1 := by kernel_rfl
theorem gSynT : (Tryd.prog.globals[1]?).map (·.type) = some 51 := by kernel_rfl
theorem gRng : Tryd.prog.globalNamed "strconv.ErrRange" = some 2 := by kernel_rfl
theorem gRngT : (Tryd.prog.globals[2]?).map (·.type) = some 51 := by kernel_rfl
theorem star : "*" ++ "errors.errorString" = "*errors.errorString" := by kernel_rfl
theorem rowErr (u : TypeId) (h : Tryd.prog.typeName? 3 u = some "*errors.errorString") : u = 99 :=
  typeName_ptr_named (nm := "errors.errorString") (by rw [star]; kernel_rfl) (by kernel_rfl) (by decide) u (by rw [star]; exact h)

theorem laid_of {W : World} (h0 : laidMetH Tryd.prog Rows.decimalTellsRow.laid W) : Laid W := by
  rw [MakeChecks.laidMetH_plain _ _ _ (by kernel_rfl)] at h0
  have h := h0.tail.tail
  refine ⟨?_, ?_, ?_⟩
  · exact Lib.tabIs_of_head gPows gPowsT Tryd.underlying93 Tryd.underlying54 (by kernel_rfl) (by kernel_rfl) (zs := Lib.pow10Tab) h
  · obtain ⟨a, s, hv, -, -, -⟩ := laid_sentinel h.tail.tail gSyn gSynT Tryd.underlying51 rowErr Tryd.underlying99 Tryd.underlying101 rfl rfl Tryd.underlying9 (by kernel_rfl) (by kernel_rfl)
    exact ⟨_, _, hv⟩
  · obtain ⟨a, s, hv, -, -, -⟩ := laid_sentinel h.tail gRng gRngT Tryd.underlying51 rowErr Tryd.underlying99 Tryd.underlying101 rfl rfl Tryd.underlying9 (by kernel_rfl) (by kernel_rfl)
    exact ⟨_, _, hv⟩

/-- the heap that the door's own run leaves meets the list -/
theorem door_met (os : Os) (args : Array Value) : laidMetH Tryd.prog Rows.decimalTellsRow.laid ((World.doorLaid Tryd.prog 400 os).forCall (fun _ _ => 0) ⟨#[], args, []⟩).memory :=
  laidMetH_of_parts3 (fuel := 8) (laidMet_of_run' 8 (by kernel_rfl) (by kernel_rfl)) (by kernel_rfl) (by kernel_rfl)

end Go.Proofs.YtlmhddaelfolfaaDoor
