/-
  What the rows' list of the library's variables gives to the walks. Nothing is claimed here by itself.
-/
import Derived.Test.YtkebngldmcoaaaaDoorRows
import Derived.Test.YtkebngldmcoaaaaDoorParses
import Derived.Stop.LaidErr
import Derived.Lib.LaidTab
import Derived.MakeChecks
import Derived.LaidMore
namespace Go.Proofs.YtkebngldmcoaaaaDoor
open Go.RowKit Go.Lib

theorem gPows : Tryd.prog.globalNamed "internal/strconv.uint64pow10" = some 1 := by kernel_rfl
theorem gPowsT : (Tryd.prog.globals[1]?).map (·.type) = some 100 := by kernel_rfl
theorem gSyn : Tryd.prog.globalNamed "strconv.ErrSyntax" = some 2 := by kernel_rfl
theorem gSynT : (Tryd.prog.globals[2]?).map (·.type) = some 55 := by kernel_rfl
theorem gRng : Tryd.prog.globalNamed "strconv.ErrRange" = some 3 := by kernel_rfl
theorem gRngT : (Tryd.prog.globals[3]?).map (·.type) = some 55 := by kernel_rfl
theorem star : "*" ++ "errors.errorString" = "*errors.errorString" := by kernel_rfl
theorem rowErr (u : TypeId) (h : Tryd.prog.typeName? 3 u = some "*errors.errorString") : u = 123 :=
  typeName_ptr_named (nm := "errors.errorString") (by rw [star]; kernel_rfl) (by kernel_rfl) (by decide) u (by rw [star]; exact h)

theorem laid_of {W : World} (h0 : laidMetH Tryd.prog Rows.numberBackRow.laid W) : Laid W := by
  rw [MakeChecks.laidMetH_plain _ _ _ (by kernel_rfl)] at h0
  have h := h0.tail.tail
  refine ⟨?_, ?_, ?_⟩
  · exact Lib.tabIs_of_head gPows gPowsT Tryd.underlying100 Tryd.underlying60 (by kernel_rfl) (by kernel_rfl) (zs := Lib.pow10Tab) h
  · obtain ⟨a, s, hv, -, -, -⟩ := laid_sentinel h.tail.tail.tail gSyn gSynT Tryd.underlying55 rowErr Tryd.underlying123 Tryd.underlying125 rfl rfl Tryd.underlying9 (by kernel_rfl) (by kernel_rfl)
    exact ⟨_, _, hv⟩
  · obtain ⟨a, s, hv, -, -, -⟩ := laid_sentinel h.tail.tail gRng gRngT Tryd.underlying55 rowErr Tryd.underlying123 Tryd.underlying125 rfl rfl Tryd.underlying9 (by kernel_rfl) (by kernel_rfl)
    exact ⟨_, _, hv⟩
end Go.Proofs.YtkebngldmcoaaaaDoor
