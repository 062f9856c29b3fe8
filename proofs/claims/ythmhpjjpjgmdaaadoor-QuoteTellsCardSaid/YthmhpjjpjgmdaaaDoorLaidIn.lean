/-
  What the rows' list of the library's variables gives to the walks. Nothing is claimed here by itself.
-/
import Derived.Test.YthmhpjjpjgmdaaaDoorRows
import Derived.Test.YthmhpjjpjgmdaaaDoorBytes
import Derived.Lib.LaidU8T
import Derived.MakeChecks
import Derived.LaidMore
import Derived.KernelRfl
namespace Go.Proofs.YthmhpjjpjgmdaaaDoor
open Go.RowKit Go.Lib

set_option maxRecDepth 100000 in
theorem firstData_eq : (Rows.laid_unicode_utf8_first : DataW Unit) = firstData := by kernel_rfl
set_option maxRecDepth 100000 in
theorem acceptData_eq : (Rows.laid_unicode_utf8_acceptRanges : DataW Unit) = acceptData := by kernel_rfl
theorem u8types : U8Types Tryd.prog Tryd.lays197_ren := { Tryd.lays197 with }
theorem u8extra : U8Extra Tryd.prog Tryd.lays197_ren := {
  n3 := by kernel_rfl
  n4 := by kernel_rfl
  y3 := by kernel_rfl
  y4 := by kernel_rfl
  c5 := by kernel_rfl
  c119 := by kernel_rfl
  c138 := by kernel_rfl }
theorem laid_of {W : World} (h0 : laidMetH Tryd.prog Rows.quoteTellsRow.laid W) : Laid W := by
  rw [MakeChecks.laidMetH_plain _ _ _ (by kernel_rfl)] at h0
  have h3 : VarReads Tryd.prog W "unicode/utf8.first" Rows.laid_unicode_utf8_first := laidMet.reads h0 (by simp [Rows.quoteTellsRow])
  have h4 : VarReads Tryd.prog W "unicode/utf8.acceptRanges" Rows.laid_unicode_utf8_acceptRanges := laidMet.reads h0 (by simp [Rows.quoteTellsRow])
  rw [firstData_eq] at h3
  rw [acceptData_eq] at h4
  exact utf8Tabs_of_readsT u8types u8extra h3 h4
end Go.Proofs.YthmhpjjpjgmdaaaDoor
