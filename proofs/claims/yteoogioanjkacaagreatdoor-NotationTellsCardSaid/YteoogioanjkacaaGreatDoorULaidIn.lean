/-
  What the rows' list of the library's variables gives to the walks. Nothing is claimed here by itself.
-/
import Derived.Test.YteoogioanjkacaaGreatDoorRows
import Derived.Test.YteoogioanjkacaaGreatDoorU14
import Derived.Stop.LaidErr
import Derived.Lib.LaidTab
import Derived.Lib.LaidU8T
import Derived.MakeChecks
import Derived.LaidMore
import Derived.KernelRfl
namespace Go.Proofs.YteoogioanjkacaaGreatDoor.Num
set_option maxRecDepth 20000
open Go.RowKit Go.Lib
theorem gPows : Tryz.prog.globalNamed "internal/strconv.uint64pow10" = some 1 := by kernel_rfl
theorem gPowsT : (Tryz.prog.globals[1]?).map (·.type) = some 184 := by kernel_rfl
theorem gSyn : Tryz.prog.globalNamed "strconv.ErrSyntax" = some 6 := by kernel_rfl
theorem gSynT : (Tryz.prog.globals[6]?).map (·.type) = some 89 := by kernel_rfl
theorem gRng : Tryz.prog.globalNamed "strconv.ErrRange" = some 7 := by kernel_rfl
theorem gRngT : (Tryz.prog.globals[7]?).map (·.type) = some 89 := by kernel_rfl
theorem star : "*" ++ "errors.errorString" = "*errors.errorString" := by kernel_rfl
theorem rowErr (u : TypeId) (h : Tryz.prog.typeName? 3 u = some "*errors.errorString") : u = 208 :=
  typeName_ptr_named (nm := "errors.errorString") (by rw [star]; kernel_rfl) (by kernel_rfl) (by decide) u (by rw [star]; exact h)

theorem laid_of {W : World} (h0 : laidMetH Tryz.prog Rows.notationTellsRow.laid W) : Laid W := by
  rw [MakeChecks.laidMetH_plain _ _ _ (by kernel_rfl)] at h0
  have h := h0.tail.tail
  refine ⟨?_, ?_, ?_⟩
  · exact Lib.tabIs_of_head gPows gPowsT Tryz.underlying184 Tryz.underlying132 (by kernel_rfl) (by kernel_rfl) (zs := Lib.pow10Tab) h
  · obtain ⟨a, s, hv, -, -, -⟩ := laid_sentinel h.tail.tail.tail gSyn gSynT Tryz.underlying89 rowErr Tryz.underlying208 Tryz.underlying210 rfl rfl Tryz.underlying9 (by kernel_rfl) (by kernel_rfl)
    exact ⟨_, _, hv⟩
  · obtain ⟨a, s, hv, -, -, -⟩ := laid_sentinel h.tail.tail gRng gRngT Tryz.underlying89 rowErr Tryz.underlying208 Tryz.underlying210 rfl rfl Tryz.underlying9 (by kernel_rfl) (by kernel_rfl)
    exact ⟨_, _, hv⟩
end Go.Proofs.YteoogioanjkacaaGreatDoor.Num
namespace Go.Proofs.YteoogioanjkacaaGreatDoor.Quo
set_option maxRecDepth 20000
open Go.RowKit Go.Lib
set_option maxRecDepth 100000 in
theorem firstData_eq : (Rows.laid_unicode_utf8_first : DataW Unit) = firstData := by kernel_rfl
set_option maxRecDepth 100000 in
theorem acceptData_eq : (Rows.laid_unicode_utf8_acceptRanges : DataW Unit) = acceptData := by kernel_rfl
theorem u8types : U8Types Tryz.prog Tryz.lays197_ren := { Tryz.lays197 with }
theorem u8extra : U8Extra Tryz.prog Tryz.lays197_ren := {
  n3 := by kernel_rfl
  n4 := by kernel_rfl
  y3 := by kernel_rfl
  y4 := by kernel_rfl
  c5 := by kernel_rfl
  c119 := by kernel_rfl
  c138 := by kernel_rfl }
theorem laid_of {W : World} (h0 : laidMetH Tryz.prog Rows.notationTellsRow.laid W) : Laid W := by
  rw [MakeChecks.laidMetH_plain _ _ _ (by kernel_rfl)] at h0
  have h3 : VarReads Tryz.prog W "unicode/utf8.first" Rows.laid_unicode_utf8_first := laidMet.reads h0 (by simp [Rows.notationTellsRow])
  have h4 : VarReads Tryz.prog W "unicode/utf8.acceptRanges" Rows.laid_unicode_utf8_acceptRanges := laidMet.reads h0 (by simp [Rows.notationTellsRow])
  rw [firstData_eq] at h3
  rw [acceptData_eq] at h4
  exact utf8Tabs_of_readsT u8types u8extra h3 h4
end Go.Proofs.YteoogioanjkacaaGreatDoor.Quo
namespace Go.Proofs.YteoogioanjkacaaGreatDoor
open Go.RowKit Go.Lib
def Laid (w : World) : Prop := LaidN w
theorem laid_of {W : World} (h0 : laidMetH Tryz.prog Rows.notationTellsRow.laid W) : Laid W := ⟨Num.laid_of h0, Quo.laid_of h0⟩
end Go.Proofs.YteoogioanjkacaaGreatDoor
