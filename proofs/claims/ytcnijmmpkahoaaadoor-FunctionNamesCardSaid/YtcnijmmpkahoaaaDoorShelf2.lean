/-
  The builder's writer at this dump: an application of a theorem of the library. Nothing is claimed here by itself.
-/
import Derived.Shelf.Strings.BuilderK
import Derived.Test.YtcnijmmpkahoaaaDoorShelf
namespace Go.Proofs.YtcnijmmpkahoaaaDoor
open Go.Shelf Go.RowKit
def bldRen : Go.Shelf.Ren := ⟨fun | 240 => 74 | 276 => 90 | 166 => 47 | 169 => 48 | n => n, fun | 0 => 0 | 3 => 3 | 4 => 4 | 5 => 5 | 9 => 9 | 20 => 20 | 37 => 55 | 70 => 54 | 72 => 57 | 75 => 59 | 80 => 63 | 127 => 78 | 164 => 85 | n => n, fun | n => n⟩
theorem bld166 : Go.Proofs.Lays.n166 Tryd.prog bldRen := {
  mixed := by kernel_rfl
  f166 := Tryd.func47.trans (congrArg some (by kernel_rfl))
  f240 := Tryd.func74.trans (congrArg some (by kernel_rfl))
  f276 := Tryd.func90.trans (congrArg some (by kernel_rfl))
  t0 := by first | exact Tryd.underlying0 | kernel_rfl
  a0 := by first | exact Tryd.isAgg0 | exact fun w => run_isAgg_plain (show Tryd.prog.underlying 0 = _ by kernel_rfl) rfl
  z0 := by first | exact Tryd.sizeOf0 | kernel_rfl
  v0 := by first | exact Tryd.zeroValue0 | kernel_rfl
  t3 := by first | exact Tryd.underlying3 | kernel_rfl
  a3 := by first | exact Tryd.isAgg3 | exact fun w => run_isAgg_plain (show Tryd.prog.underlying 3 = _ by kernel_rfl) rfl
  z3 := by first | exact Tryd.sizeOf3 | kernel_rfl
  v3 := by first | exact Tryd.zeroValue3 | kernel_rfl
  t4 := by first | exact Tryd.underlying4 | kernel_rfl
  a4 := by first | exact Tryd.isAgg4 | exact fun w => run_isAgg_plain (show Tryd.prog.underlying 4 = _ by kernel_rfl) rfl
  z4 := by first | exact Tryd.sizeOf4 | kernel_rfl
  v4 := by first | exact Tryd.zeroValue4 | kernel_rfl
  t9 := by first | exact Tryd.underlying9 | kernel_rfl
  a9 := by first | exact Tryd.isAgg9 | exact fun w => run_isAgg_plain (show Tryd.prog.underlying 9 = _ by kernel_rfl) rfl
  z9 := by first | exact Tryd.sizeOf9 | kernel_rfl
  v9 := by first | exact Tryd.zeroValue9 | kernel_rfl
  t20 := by first | exact Tryd.underlying20 | kernel_rfl
  a20 := by first | exact Tryd.isAgg20 | exact fun w => run_isAgg_plain (show Tryd.prog.underlying 20 = _ by kernel_rfl) rfl
  z20 := by first | exact Tryd.sizeOf20 | kernel_rfl
  v20 := by first | exact Tryd.zeroValue20 | kernel_rfl
  t37 := by first | exact Tryd.underlying55 | kernel_rfl
  a37 := by first | exact Tryd.isAgg55 | exact fun w => run_isAgg_plain (show Tryd.prog.underlying 55 = _ by kernel_rfl) rfl
  z37 := by first | exact Tryd.sizeOf55 | kernel_rfl
  v37 := by first | exact Tryd.zeroValue55 | kernel_rfl
  t70 := by first | exact Tryd.underlying54 | kernel_rfl
  a70 := by first | exact Tryd.isAgg54 | exact fun w => run_isAgg_plain (show Tryd.prog.underlying 54 = _ by kernel_rfl) rfl
  z70 := by first | exact Tryd.sizeOf54 | kernel_rfl
  v70 := by first | exact Tryd.zeroValue54 | kernel_rfl
  t72 := by first | exact Tryd.underlying57 | kernel_rfl
  a72 := by first | exact Tryd.isAgg57 | exact fun w => run_isAgg_plain (show Tryd.prog.underlying 57 = _ by kernel_rfl) rfl
  z72 := by first | exact Tryd.sizeOf57 | kernel_rfl
  v72 := by first | exact Tryd.zeroValue57 | kernel_rfl
  t75 := by first | exact Tryd.underlying59 | kernel_rfl
  a75 := by first | exact Tryd.isAgg59 | exact fun w => run_isAgg_plain (show Tryd.prog.underlying 59 = _ by kernel_rfl) rfl
  z75 := by first | exact Tryd.sizeOf59 | kernel_rfl
  v75 := by first | exact Tryd.zeroValue59 | kernel_rfl
  t164 := by first | exact Tryd.underlying85 | kernel_rfl
  a164 := by first | exact Tryd.isAgg85 | exact fun w => run_isAgg_plain (show Tryd.prog.underlying 85 = _ by kernel_rfl) rfl
  z164 := by first | exact Tryd.sizeOf85 | kernel_rfl
  v164 := by first | exact Tryd.zeroValue85 | kernel_rfl }
theorem bldExtra : Builder.Extra Tryd.prog bldRen := {
  sizeBuilder := by kernel_rfl
  liesBuilder := by kernel_rfl
  t5 := Tryd.underlying5
  a5 := Tryd.isAgg5
  z5 := Tryd.sizeOf5
  v5 := Tryd.zeroValue5
  infoByte := by kernel_rfl
  cellsByte := by kernel_rfl
  sizeByte := by kernel_rfl
  neB5 := by decide }
theorem bld_write (B b : Nat) (bs : List Value) (s : ByteArray) (w : World) (h : Lib.IsBuilderF 57 5 B b bs w) (hlen : bs.length + s.size ≤ 140737488355328) (hBw : B ≤ w.heap.size) :
    Calls Tryd.prog 47 #[.pointer (some ⟨b, 0, none⟩), .string s] w fun e w' => e = .returned (.tuple #[.int .i64 s.size, .nilIface]) ∧ (Lib.BuilderAtF 57 5 B b (.pointer (some ⟨b, 0, none⟩)) (bs ++ Lib.strCells s) w' ∧ Below B w w' ∧ Lib.OthersKept 5 (some b) w w') :=
  Any.Builder_WriteString_k bld166 bldExtra B b bs s w h hlen hBw
end Go.Proofs.YtcnijmmpkahoaaaDoor
