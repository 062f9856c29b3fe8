/-
  Contracts, joined: Shelf, NDigs, NFmt, NTexts, NCuts, NParses, NNumMath, NPieces, NNTexts. Nothing is claimed here by itself.
-/
import Derived.Test.YteoogioanjkacaaGreatDoorU01
import Derived.Test.YteoogioanjkacaaGreatDoorU04
import Derived.Shelf.Strings.Builder1
import Derived.Shelf.Strings.Builder2
import Derived.Shelf.Strings.OnBuilder
import Derived.Shelf.Strings.Trim
import Derived.Shelf.Small.Utf8
import Derived.Shelf.Small.Strs
import Derived.Shelf.Small.Wraps
import Derived.Shelf.Strings.BuilderF
import Derived.Shelf.Strings.BuilderK
import Derived.Shelf.Utf8.AppendRunePlain
import Derived.Shelf.Strconv.Atoi
import Derived.Shelf.Strconv.Itoa0
import Derived.Shelf.Strconv.Itoa1
import Derived.Shelf.LaysM
import Derived.Shelf.Strconv.Itoa2
import Derived.Shelf.Strconv.AtoiErrFast
import Derived.Shelf.Strconv.ParseIntEmpty
import Derived.Shelf.Strconv.AtoiFail
import Derived.Shelf.Strconv.Clone
import Derived.Shelf.Strconv.SyntaxError
import Derived.Shelf.LaysC
import Derived.Shelf.Strconv.ToError
import Derived.Shelf.Strconv.Lower
import Derived.Shelf.Strconv.ParseUint10
import Derived.Shelf.Strconv.ParseUint10Empty
import Derived.Shelf.Strconv.ParseUint10Any
import Derived.Shelf.Strconv.ParseInt10
import Derived.Shelf.Strconv.AtoiLong
import Derived.Shelf.Strconv.AtoiInnerAll
import Derived.Shelf.Strconv.RangeError
import Derived.Shelf.Strconv.ToErrorRange
import Derived.Shelf.Strconv.AtoiAll
import Derived.Shelf.Strconv.ErrVarAll
import Derived.Shelf.Strings.Search1
import Derived.Shelf.Strings.Search2
import Derived.Shelf.Strings.Search3
import Derived.Shelf.Strings.Cut
import Derived.Shelf.Strings.Shaped
import Derived.Shelf.Strings.Prefix
import Derived.Shelf.Strings.Runes
import Derived.Shelf.Strings.AsciiSet
import Derived.Shelf.Bits.Mul64
import Derived.Shelf.Strings.Repeat
import Derived.Shelf.Unicode.DecodeSlow
import Derived.Shelf.Unicode.DecodeAny
import Derived.Test.YteoogioanjkacaaGreatDoorProg
import Derived.Lib.ItoaNum
import Derived.Lib.AtoiAll
import Derived.Lib.ItoaMem
import Derived.Lib.Walk
import Derived.WalkKit
import Derived.ProofKit
import Derived.BigCall
import Derived.BigGuard
import Derived.Lib.Hide
import Derived.Deep.QuietTactic
import Derived.Lib.Join
import Derived.Lib.TrimByte
import Derived.Lib.Repeat
set_option maxRecDepth 100000
set_option maxHeartbeats 12800000
set_option linter.unusedSimpArgs false
set_option linter.unusedVariables false
namespace Go.Proofs
open Go.Shelf
def Tryz.lays169_ren:Go.Shelf.Ren:=⟨fun | 169 => 28 | n => n,fun | 70 => 56 | 9 => 9 | 0 => 0 | 72 => 59 | 37 => 57 | 127 => 93 | 3 => 3 | 5 => 5 | n => n,fun | n => n⟩
theorem Tryz.lays169:Go.Proofs.Lays.n169 Tryz.prog Tryz.lays169_ren:={
 mixed:=by kernel_rfl
 f169:=Tryz.func28.trans (congrArg some (by kernel_rfl))
 t0:=Tryz.underlying0
 a0:=Tryz.isAgg0
 z0:=Tryz.sizeOf0
 v0:=Tryz.zeroValue0
 t3:=Tryz.underlying3
 a3:=Tryz.isAgg3
 z3:=Tryz.sizeOf3
 v3:=Tryz.zeroValue3
 t9:=Tryz.underlying9
 a9:=Tryz.isAgg9
 z9:=Tryz.sizeOf9
 v9:=Tryz.zeroValue9
 t37:=Tryz.underlying57
 a37:=Tryz.isAgg57
 z37:=Tryz.sizeOf57
 v37:=Tryz.zeroValue57
 t70:=Tryz.underlying56
 a70:=Tryz.isAgg56
 z70:=Tryz.sizeOf56
 v70:=Tryz.zeroValue56
 t72:=Tryz.underlying59
 a72:=Tryz.isAgg59
 z72:=Tryz.sizeOf59
 v72:=Tryz.zeroValue59
 t127:=Tryz.underlying93
 a127:=Tryz.isAgg93
 z127:=Tryz.sizeOf93
 v127:=Tryz.zeroValue93 }
theorem Tryz.Builder_Extra_169:Builder.Extra Tryz.prog Tryz.lays169_ren:={
 sizeBuilder:=by kernel_rfl
 liesBuilder:=by kernel_rfl
 t5:=Tryz.underlying5
 a5:=Tryz.isAgg5
 z5:=Tryz.sizeOf5
 v5:=Tryz.zeroValue5
 infoByte:=by kernel_rfl
 cellsByte:=by kernel_rfl
 sizeByte:=by kernel_rfl
 neB5:=by decide }
def Tryz.lays156_ren:Go.Shelf.Ren:=⟨fun | 156 => 38 | 165 => 79 | 166 => 59 | 169 => 28 | 240 => 103 | 241 => 115 | 276 => 137 | 277 => 149 | n => n,fun | 31 => 66 | 9 => 9 | 3 => 3 | 4 => 4 | 0 => 0 | 20 => 20 | 72 => 59 | 76 => 90 | 70 => 56 | 37 => 57 | 75 => 89 | 127 => 93 | 164 => 146 | 5 => 5 | 80 => 61 | n => n,fun | n => n⟩
theorem Tryz.lays156:Go.Proofs.Lays.n156 Tryz.prog Tryz.lays156_ren:={
 mixed:=by kernel_rfl
 f156:=Tryz.func38.trans (congrArg some (by kernel_rfl))
 f165:=Tryz.func79.trans (congrArg some (by kernel_rfl))
 f166:=Tryz.func59.trans (congrArg some (by kernel_rfl))
 f169:=Tryz.func28.trans (congrArg some (by kernel_rfl))
 f240:=Tryz.func103.trans (congrArg some (by kernel_rfl))
 f241:=Tryz.func115.trans (congrArg some (by kernel_rfl))
 f276:=Tryz.func137.trans (congrArg some (by kernel_rfl))
 f277:=Tryz.func149.trans (congrArg some (by kernel_rfl))
 t0:=Tryz.underlying0
 a0:=Tryz.isAgg0
 z0:=Tryz.sizeOf0
 v0:=Tryz.zeroValue0
 t3:=Tryz.underlying3
 a3:=Tryz.isAgg3
 z3:=Tryz.sizeOf3
 v3:=Tryz.zeroValue3
 t4:=Tryz.underlying4
 a4:=Tryz.isAgg4
 z4:=Tryz.sizeOf4
 v4:=Tryz.zeroValue4
 t9:=Tryz.underlying9
 a9:=Tryz.isAgg9
 z9:=Tryz.sizeOf9
 v9:=Tryz.zeroValue9
 t20:=Tryz.underlying20
 a20:=Tryz.isAgg20
 z20:=Tryz.sizeOf20
 v20:=Tryz.zeroValue20
 t31:=Tryz.underlying66
 a31:=Tryz.isAgg66
 z31:=Tryz.sizeOf66
 v31:=Tryz.zeroValue66
 t37:=Tryz.underlying57
 a37:=Tryz.isAgg57
 z37:=Tryz.sizeOf57
 v37:=Tryz.zeroValue57
 t70:=Tryz.underlying56
 a70:=Tryz.isAgg56
 z70:=Tryz.sizeOf56
 v70:=Tryz.zeroValue56
 t72:=Tryz.underlying59
 a72:=Tryz.isAgg59
 z72:=Tryz.sizeOf59
 v72:=Tryz.zeroValue59
 t75:=Tryz.underlying89
 a75:=Tryz.isAgg89
 z75:=Tryz.sizeOf89
 v75:=Tryz.zeroValue89
 t76:=Tryz.underlying90
 a76:=Tryz.isAgg90
 z76:=Tryz.sizeOf90
 v76:=Tryz.zeroValue90
 t127:=Tryz.underlying93
 a127:=Tryz.isAgg93
 z127:=Tryz.sizeOf93
 v127:=Tryz.zeroValue93
 t164:=Tryz.underlying146
 a164:=Tryz.isAgg146
 z164:=Tryz.sizeOf146
 v164:=Tryz.zeroValue146 }
theorem Tryz.Builder_Extra_156:Builder.Extra Tryz.prog Tryz.lays156_ren:={
 sizeBuilder:=by kernel_rfl
 liesBuilder:=by kernel_rfl
 t5:=Tryz.underlying5
 a5:=Tryz.isAgg5
 z5:=Tryz.sizeOf5
 v5:=Tryz.zeroValue5
 infoByte:=by kernel_rfl
 cellsByte:=by kernel_rfl
 sizeByte:=by kernel_rfl
 neB5:=by decide }
open Go.RowKit in
theorem Tryz.strings_Join (bk o c:Nat) (xs:List ByteArray) (sep:ByteArray) (w:World) (hcells:∀ (j:Nat) x,xs[j]? = some x → w.cell? ⟨bk,o + j,none⟩ = some (.string x)) (hbk:bk < w.heap.size) (hN:xs.length ≤ 140737488355328) (hcap:xs.length ≤ c) (hlen:(Lib.join (xs.map (·.data.toList)) sep.data.toList).length ≤ 140737488355328) :
  Calls Tryz.prog 38 #[.slice (some ⟨bk,o,none⟩) xs.length c,.string sep] w fun e w' => e = .returned (.string ⟨(Lib.join (xs.map (·.data.toList)) sep.data.toList).toArray⟩) ∧ Below w.heap.size w w':=Any.strings_Join Tryz.lays156 Tryz.Builder_Extra_156 bk o c xs sep w hcells hbk hN hcap hlen
def Tryz.lays162_ren:Go.Shelf.Ren:=⟨fun | 162 => 181 | 232 => 198 | 227 => 128 | 234 => 199 | 236 => 200 | 228 => 155 | 271 => 205 | 151 => 156 | 120 => 211 | 197 => 151 | 152 => 178 | 260 => 173 | 137 => 195 | 119 => 80 | 224 => 176 | 225 => 175 | 217 => 174 | 266 => 193 | n => n,fun | 9 => 9 | 4 => 4 | 3 => 3 | 5 => 5 | 117 => 141 | 116 => 140 | 0 => 0 | 124 => 144 | 21 => 21 | 105 => 134 | 46 => 124 | 119 => 187 | 139 => 190 | 138 => 189 | n => n,fun | 3 => 2 | 4 => 3 | n => n⟩
theorem Tryz.lays162:Go.Proofs.Lays.n162 Tryz.prog Tryz.lays162_ren:={
 mixed:=by kernel_rfl
 f119:=Tryz.func80.trans (congrArg some (by kernel_rfl))
 f120:=Tryz.func211.trans (congrArg some (by kernel_rfl))
 f137:=Tryz.func195.trans (congrArg some (by kernel_rfl))
 f151:=Tryz.func156.trans (congrArg some (by kernel_rfl))
 f152:=Tryz.func178.trans (congrArg some (by kernel_rfl))
 f162:=Tryz.func181.trans (congrArg some (by kernel_rfl))
 f197:=Tryz.func151.trans (congrArg some (by kernel_rfl))
 f217:=Tryz.func174.trans (congrArg some (by kernel_rfl))
 f224:=Tryz.func176.trans (congrArg some (by kernel_rfl))
 f225:=Tryz.func175.trans (congrArg some (by kernel_rfl))
 f227:=Tryz.func128.trans (congrArg some (by kernel_rfl))
 f228:=Tryz.func155.trans (congrArg some (by kernel_rfl))
 f232:=Tryz.func198.trans (congrArg some (by kernel_rfl))
 f234:=Tryz.func199.trans (congrArg some (by kernel_rfl))
 f236:=Tryz.func200.trans (congrArg some (by kernel_rfl))
 f260:=Tryz.func173.trans (congrArg some (by kernel_rfl))
 f266:=Tryz.func193.trans (congrArg some (by kernel_rfl))
 f271:=Tryz.func205.trans (congrArg some (by kernel_rfl))
 t0:=Tryz.underlying0
 a0:=Tryz.isAgg0
 z0:=Tryz.sizeOf0
 v0:=Tryz.zeroValue0
 t3:=Tryz.underlying3
 a3:=Tryz.isAgg3
 z3:=Tryz.sizeOf3
 v3:=Tryz.zeroValue3
 t4:=Tryz.underlying4
 a4:=Tryz.isAgg4
 z4:=Tryz.sizeOf4
 v4:=Tryz.zeroValue4
 t5:=Tryz.underlying5
 a5:=Tryz.isAgg5
 z5:=Tryz.sizeOf5
 v5:=Tryz.zeroValue5
 t9:=Tryz.underlying9
 a9:=Tryz.isAgg9
 z9:=Tryz.sizeOf9
 v9:=Tryz.zeroValue9
 t21:=Tryz.underlying21
 a21:=Tryz.isAgg21
 z21:=Tryz.sizeOf21
 v21:=Tryz.zeroValue21
 t46:=Tryz.underlying124
 a46:=Tryz.isAgg124
 z46:=Tryz.sizeOf124
 v46:=Tryz.zeroValue124
 t105:=Tryz.underlying134
 a105:=Tryz.isAgg134
 z105:=Tryz.sizeOf134
 v105:=Tryz.zeroValue134
 t116:=Tryz.underlying140
 a116:=Tryz.isAgg140
 z116:=Tryz.sizeOf140
 t117:=Tryz.underlying141
 a117:=Tryz.isAgg141
 z117:=Tryz.sizeOf141
 v117:=Tryz.zeroValue141
 t119:=Tryz.underlying187
 a119:=Tryz.isAgg187
 z119:=Tryz.sizeOf187
 t124:=Tryz.underlying144
 a124:=Tryz.isAgg144
 z124:=Tryz.sizeOf144
 v124:=Tryz.zeroValue144
 t138:=Tryz.underlying189
 a138:=Tryz.isAgg189
 z138:=Tryz.sizeOf189
 v138:=Tryz.zeroValue189
 t139:=Tryz.underlying190
 a139:=Tryz.isAgg190
 z139:=Tryz.sizeOf190
 v139:=Tryz.zeroValue190
 g3:=by kernel_rfl
 g4:=by kernel_rfl }
open Go.RowKit in
theorem Tryz.strings_TrimRight_one (s:ByteArray) (c:UInt8) (hc:c.toNat < 128) (w:World) (hs:s.size ≤ 9223372036854775807) :
  Calls Tryz.prog 181 #[.string s,.string ⟨#[c]⟩] w fun e w' => e = .returned (.string ⟨(Lib.trimRightB s.data.toList c).toArray⟩) ∧ w' = w:=Any.strings_TrimRight_one Tryz.lays162 s c hc w hs
def Tryz.lays118_ren:Go.Shelf.Ren:=⟨fun | 118 => 152 | n => n,fun | 21 => 21 | 3 => 3 | 4 => 4 | n => n,fun | n => n⟩
theorem Tryz.lays118:Go.Proofs.Lays.n118 Tryz.prog Tryz.lays118_ren:={
 mixed:=by kernel_rfl
 f118:=Tryz.func152.trans (congrArg some (by kernel_rfl))
 t3:=Tryz.underlying3
 a3:=Tryz.isAgg3
 z3:=Tryz.sizeOf3
 v3:=Tryz.zeroValue3
 t4:=Tryz.underlying4
 a4:=Tryz.isAgg4
 z4:=Tryz.sizeOf4
 v4:=Tryz.zeroValue4
 t21:=Tryz.underlying21
 a21:=Tryz.isAgg21
 z21:=Tryz.sizeOf21
 v21:=Tryz.zeroValue21 }
theorem Tryz.utf8_RuneLen (r:Int) (w:World) :
  Calls Tryz.prog 152 #[.int .i32 r] w fun e w' => e = .returned (.int .i64 (Lib.runeLen r)) ∧ w' = w:=Any.utf8_RuneLen Tryz.lays118 r w
def Tryz.lays119_ren:Go.Shelf.Ren:=⟨fun | 119 => 80 | n => n,fun | 21 => 21 | 4 => 4 | n => n,fun | n => n⟩
theorem Tryz.lays119:Go.Proofs.Lays.n119 Tryz.prog Tryz.lays119_ren:={
 mixed:=by kernel_rfl
 f119:=Tryz.func80.trans (congrArg some (by kernel_rfl))
 t4:=Tryz.underlying4
 a4:=Tryz.isAgg4
 z4:=Tryz.sizeOf4
 v4:=Tryz.zeroValue4
 t21:=Tryz.underlying21
 a21:=Tryz.isAgg21
 z21:=Tryz.sizeOf21
 v21:=Tryz.zeroValue21 }
theorem Tryz.utf8_ValidRune (r:Int) (w:World) :
  Calls Tryz.prog 80 #[.int .i32 r] w fun e w' => e = .returned (.bool (Lib.validRune r)) ∧ w' = w:=Any.utf8_ValidRune Tryz.lays119 r w
def Tryz.lays137_ren:Go.Shelf.Ren:=⟨fun | 137 => 195 | 217 => 174 | 266 => 193 | n => n,fun | 9 => 9 | 5 => 5 | 3 => 3 | n => n,fun | n => n⟩
theorem Tryz.lays137:Go.Proofs.Lays.n137 Tryz.prog Tryz.lays137_ren:={
 mixed:=by kernel_rfl
 f137:=Tryz.func195.trans (congrArg some (by kernel_rfl))
 f217:=Tryz.func174.trans (congrArg some (by kernel_rfl))
 f266:=Tryz.func193.trans (congrArg some (by kernel_rfl))
 t3:=Tryz.underlying3
 a3:=Tryz.isAgg3
 z3:=Tryz.sizeOf3
 v3:=Tryz.zeroValue3
 t5:=Tryz.underlying5
 a5:=Tryz.isAgg5
 z5:=Tryz.sizeOf5
 v5:=Tryz.zeroValue5
 t9:=Tryz.underlying9
 a9:=Tryz.isAgg9
 z9:=Tryz.sizeOf9
 v9:=Tryz.zeroValue9 }
open Go.RowKit in
theorem Tryz.strings_IndexByte (s:ByteArray) (c:Int) (w:World) :
  Calls Tryz.prog 195 #[.string s,.int .u8 c] w fun e w' => e = .returned (.int .i64 (Lib.indexByte s.data.toList c.toNat.toUInt8)) ∧ w' = w:=Any.strings_IndexByte Tryz.lays137 s c w
def Tryz.lays103_ren:Go.Shelf.Ren:=⟨fun | 103 => 89 | 210 => 122 | 206 => 123 | n => n,fun | 9 => 9 | 4 => 4 | 24 => 38 | 3 => 3 | n => n,fun | n => n⟩
theorem Tryz.lays103:Go.Proofs.Lays.n103 Tryz.prog Tryz.lays103_ren:={
 mixed:=by kernel_rfl
 f103:=Tryz.func89.trans (congrArg some (by kernel_rfl))
 f206:=Tryz.func123.trans (congrArg some (by kernel_rfl))
 f210:=Tryz.func122.trans (congrArg some (by kernel_rfl))
 t3:=Tryz.underlying3
 a3:=Tryz.isAgg3
 z3:=Tryz.sizeOf3
 v3:=Tryz.zeroValue3
 t4:=Tryz.underlying4
 a4:=Tryz.isAgg4
 z4:=Tryz.sizeOf4
 v4:=Tryz.zeroValue4
 t9:=Tryz.underlying9
 a9:=Tryz.isAgg9
 z9:=Tryz.sizeOf9
 v9:=Tryz.zeroValue9
 t24:=Tryz.underlying38
 a24:=Tryz.isAgg38
 z24:=Tryz.sizeOf38
 v24:=Tryz.zeroValue38 }
open Go.RowKit in
theorem Tryz.strings_CutPrefix (s p:ByteArray) (w:World) :
  Calls Tryz.prog 89 #[.string s,.string p] w fun e w' => e = .returned (.tuple #[.string ⟨(Lib.trimPrefix s.data.toList p.data.toList).toArray⟩,.bool (Lib.hasPrefix s.data.toList p.data.toList)]) ∧ w' = w:=Any.strings_CutPrefix Tryz.lays103 s p w
def Tryz.lays242_ren:Go.Shelf.Ren:=⟨fun | 242 => 81 | 278 => 116 | n => n,fun | 37 => 57 | 21 => 21 | 51 => 128 | 4 => 4 | 5 => 5 | 46 => 124 | n => n,fun | n => n⟩
theorem Tryz.lays242:Go.Proofs.Lays.n242 Tryz.prog Tryz.lays242_ren:={
 mixed:=by kernel_rfl
 f242:=Tryz.func81.trans (congrArg some (by kernel_rfl))
 f278:=Tryz.func116.trans (congrArg some (by kernel_rfl))
 t4:=Tryz.underlying4
 a4:=Tryz.isAgg4
 z4:=Tryz.sizeOf4
 v4:=Tryz.zeroValue4
 t5:=Tryz.underlying5
 a5:=Tryz.isAgg5
 z5:=Tryz.sizeOf5
 v5:=Tryz.zeroValue5
 t21:=Tryz.underlying21
 a21:=Tryz.isAgg21
 z21:=Tryz.sizeOf21
 v21:=Tryz.zeroValue21
 t37:=Tryz.underlying57
 a37:=Tryz.isAgg57
 z37:=Tryz.sizeOf57
 v37:=Tryz.zeroValue57
 t46:=Tryz.underlying124
 a46:=Tryz.isAgg124
 z46:=Tryz.sizeOf124
 v46:=Tryz.zeroValue124
 t51:=Tryz.underlying128
 a51:=Tryz.isAgg128
 z51:=Tryz.sizeOf128
 v51:=Tryz.zeroValue128 }
open Go.RowKit in
theorem Tryz.utf8_AppendRune_plain (B:Nat) (v:Value) (n:Nat) (xs:List Value) (r:Int) (hr0:-2147483648 ≤ r) (hr1:r ≤ 2147483647) (w:World) (hown:w.ownsRow B 5 1 v n xs) (hlen:n + 4 ≤ 140737488355328) (hBw:B ≤ w.heap.size) :
  Calls Tryz.prog 81 #[v,.int .i32 r] w fun e w' => ∃ v',e = .returned v' ∧ w'.ownsRow B 5 1 v' (n + (Lib.runeCells r).length) (xs ++ Lib.runeCells r) ∧ ∃ o,(w.alloc o).grownBy w' v.ownBlock:=Any.utf8_AppendRune_plain Tryz.lays242 (by kernel_rfl) B v n xs r hr0 hr1 w hown hlen hBw
def Tryz.lays283_ren:Go.Shelf.Ren:=⟨fun | 283 => 169 | n => n,fun | 3 => 3 | 9 => 9 | 4 => 4 | n => n,fun | n => n⟩
theorem Tryz.lays283:Go.Proofs.Lays.n283 Tryz.prog Tryz.lays283_ren:={
 mixed:=by kernel_rfl
 f283:=Tryz.func169.trans (congrArg some (by kernel_rfl))
 t3:=Tryz.underlying3
 a3:=Tryz.isAgg3
 z3:=Tryz.sizeOf3
 v3:=Tryz.zeroValue3
 t4:=Tryz.underlying4
 a4:=Tryz.isAgg4
 z4:=Tryz.sizeOf4
 v4:=Tryz.zeroValue4
 t9:=Tryz.underlying9
 a9:=Tryz.isAgg9
 z9:=Tryz.sizeOf9
 v9:=Tryz.zeroValue9 }
open Go.Lib in
theorem Tryz.internal_strconv_small (i:Nat) (h:i < 100) (w:World) :
  Calls Tryz.prog 169 #[.int .i64 i] w fun e w' => e = .returned (.string ⟨(Lib.decDigits i).toArray⟩) ∧ w' = w:=Any.internal_strconv_small Tryz.lays283 i h w
def Tryz.laysM284_ren:Go.Shelf.Ren:=⟨fun | 284 => 170 | 129 => 189 | 317 => 188 | 318 => 190 | n => n,fun | 53 => 132 | 3 => 3 | 212 => 184 | 0 => 0 | 4 => 4 | 46 => 124 | 5 => 5 | 9 => 9 | n => n,fun | 17 => 1 | n => n⟩
theorem Tryz.laysM284:Go.Proofs.LaysM.n284 Tryz.prog Tryz.laysM284_ren:={
 mixed:=by kernel_rfl
 f129:=Tryz.func189.trans (congrArg some (by kernel_rfl))
 f284:=Tryz.func170.trans (congrArg some (by kernel_rfl))
 f317:=Tryz.func188.trans (congrArg some (by kernel_rfl))
 f318:=Tryz.func190.trans (congrArg some (by kernel_rfl))
 t0:=Tryz.underlying0
 a0:=Tryz.isAgg0
 z0:=Tryz.sizeOf0
 v0:=Tryz.zeroValue0
 t3:=Tryz.underlying3
 a3:=Tryz.isAgg3
 z3:=Tryz.sizeOf3
 v3:=Tryz.zeroValue3
 t4:=Tryz.underlying4
 a4:=Tryz.isAgg4
 z4:=Tryz.sizeOf4
 v4:=Tryz.zeroValue4
 t5:=Tryz.underlying5
 a5:=Tryz.isAgg5
 z5:=Tryz.sizeOf5
 v5:=Tryz.zeroValue5
 t9:=Tryz.underlying9
 a9:=Tryz.isAgg9
 z9:=Tryz.sizeOf9
 v9:=Tryz.zeroValue9
 t46:=Tryz.underlying124
 a46:=Tryz.isAgg124
 z46:=Tryz.sizeOf124
 v46:=Tryz.zeroValue124
 t53:=Tryz.underlying132
 a53:=Tryz.isAgg132
 z53:=Tryz.sizeOf132
 v53:=Tryz.zeroValue132
 t212:=Tryz.underlying184
 a212:=Tryz.isAgg184
 z212:=Tryz.sizeOf184
 v212:=Tryz.zeroValue184
 g17:=by kernel_rfl
 i0:=by kernel_rfl
 i3:=by kernel_rfl
 i4:=by kernel_rfl
 i5:=by kernel_rfl
 i9:=by kernel_rfl
 i46:=by kernel_rfl
 i53:=by kernel_rfl
 i212:=by kernel_rfl
 m17:=by kernel_rfl }
open Go.Lib in
theorem Tryz.internal_strconv_numDigits (u:Nat) (h1:1 ≤ u) (h2:u < 18446744073709551616) (w:World) (htab:Lib.TabIs Tryz.prog w "internal/strconv.uint64pow10" .u64 Lib.pow10Tab) :
  Calls Tryz.prog 170 #[.int .u64 u] w fun e w' => e = .returned (.int .i64 (Lib.nDigits u)) ∧ w' = w:=Any.internal_strconv_numDigits Tryz.laysM284 u h1 h2 w htab
def Tryz.lays285_ren:Go.Shelf.Ren:=⟨fun | 285 => 171 | n => n,fun | 37 => 57 | 53 => 132 | 3 => 3 | 4 => 4 | 51 => 128 | 9 => 9 | 5 => 5 | 0 => 0 | n => n,fun | n => n⟩
theorem Tryz.lays285:Go.Proofs.Lays.n285 Tryz.prog Tryz.lays285_ren:={
 mixed:=by kernel_rfl
 f285:=Tryz.func171.trans (congrArg some (by kernel_rfl))
 t0:=Tryz.underlying0
 a0:=Tryz.isAgg0
 z0:=Tryz.sizeOf0
 v0:=Tryz.zeroValue0
 t3:=Tryz.underlying3
 a3:=Tryz.isAgg3
 z3:=Tryz.sizeOf3
 v3:=Tryz.zeroValue3
 t4:=Tryz.underlying4
 a4:=Tryz.isAgg4
 z4:=Tryz.sizeOf4
 v4:=Tryz.zeroValue4
 t5:=Tryz.underlying5
 a5:=Tryz.isAgg5
 z5:=Tryz.sizeOf5
 v5:=Tryz.zeroValue5
 t9:=Tryz.underlying9
 a9:=Tryz.isAgg9
 z9:=Tryz.sizeOf9
 v9:=Tryz.zeroValue9
 t37:=Tryz.underlying57
 a37:=Tryz.isAgg57
 z37:=Tryz.sizeOf57
 v37:=Tryz.zeroValue57
 t51:=Tryz.underlying128
 a51:=Tryz.isAgg128
 z51:=Tryz.sizeOf128
 v51:=Tryz.zeroValue128
 t53:=Tryz.underlying132
 a53:=Tryz.isAgg132
 z53:=Tryz.sizeOf132
 v53:=Tryz.zeroValue132 }
open Go.RowKit Go.Sort Go.Lib in
theorem Tryz.internal_strconv_formatBase10 (blk off cap:Nat) (u:Nat) (d:Array UInt8) (w:World) (hH:Holds (fun (b:UInt8) => Value.int .u8 (b.toNat:Int)) w blk off d) (hu:u < 10 ^ d.size) (hu64:u < 18446744073709551616) (hsz:d.size < 4611686018427387904) :
  Calls Tryz.prog 171 #[.slice (some ⟨blk,off,none⟩) d.size cap,.int .u64 u] w fun e w' =>
   e = .returned (.tuple #[]) ∧ ∃ (n v':Nat) (dk:Array UInt8),w' = (putRow (fun (b:UInt8) => Value.int .u8 (b.toNat:Int)) w blk off dk).drewN n ∧ FmtInv d.size u 0 v' dk:=Any.internal_strconv_formatBase10 Tryz.lays285 blk off cap u d w hH hu hu64 hsz
def Tryz.laysC172_ren:Go.Shelf.Ren:=⟨fun | 172 => 197 | 244 => 203 | 245 => 204 | 247 => 206 | 279 => 207 | 280 => 208 | 281 => 209 | 282 => 210 | 287 => 212 | 316 => 153 | 171 => 214 | 205 => 213 | 321 => 215 | 322 => 216 | 243 => 217 | 246 => 218 | 283 => 169 | 284 => 170 | 285 => 171 | 286 => 172 | 129 => 189 | 317 => 188 | 318 => 190 | 319 => 191 | 320 => 192 | 337 => 201 | 338 => 202 | n => n,fun | 9 => 9 | 3 => 3 | 75 => 89 | 76 => 90 | 4 => 4 | 5 => 5 | 167 => 196 | 37 => 57 | 0 => 0 | 85 => 197 | 2 => 2 | 168 => 199 | 53 => 132 | 175 => 202 | 46 => 124 | 210 => 205 | 127 => 93 | 145 => 210 | 143 => 208 | 21 => 21 | 171 => 171 | 173 => 174 | 212 => 184 | 51 => 128 | 20 => 20 | 213 => 185 | 232 => 194 | 233 => 195 | 80 => 61 | n => n,fun | 15 => 6 | 16 => 7 | 17 => 1 | 18 => 4 | 19 => 5 | n => n⟩
theorem Tryz.laysC172:Go.Proofs.LaysC.n172 Tryz.prog Tryz.laysC172_ren:={
 mixed:=by kernel_rfl
 f129:=Tryz.func189.trans (congrArg some (by kernel_rfl))
 f171:=Tryz.func214.trans (congrArg some (by kernel_rfl))
 f172:=Tryz.func197.trans (congrArg some (by kernel_rfl))
 f205:=Tryz.func213.trans (congrArg some (by kernel_rfl))
 f243:=Tryz.func217.trans (congrArg some (by kernel_rfl))
 f244:=Tryz.func203.trans (congrArg some (by kernel_rfl))
 f245:=Tryz.func204.trans (congrArg some (by kernel_rfl))
 f246:=Tryz.func218.trans (congrArg some (by kernel_rfl))
 f247:=Tryz.func206.trans (congrArg some (by kernel_rfl))
 f279:=Tryz.func207.trans (congrArg some (by kernel_rfl))
 f280:=Tryz.func208.trans (congrArg some (by kernel_rfl))
 f281:=Tryz.func209.trans (congrArg some (by kernel_rfl))
 f282:=Tryz.func210.trans (congrArg some (by kernel_rfl))
 f283:=Tryz.func169.trans (congrArg some (by kernel_rfl))
 f284:=Tryz.func170.trans (congrArg some (by kernel_rfl))
 f285:=Tryz.func171.trans (congrArg some (by kernel_rfl))
 f286:=Tryz.func172.trans (congrArg some (by kernel_rfl))
 f287:=Tryz.func212.trans (congrArg some (by kernel_rfl))
 f316:=Tryz.func153.trans (congrArg some (by kernel_rfl))
 f317:=Tryz.func188.trans (congrArg some (by kernel_rfl))
 f318:=Tryz.func190.trans (congrArg some (by kernel_rfl))
 f319:=Tryz.func191.trans (congrArg some (by kernel_rfl))
 f320:=Tryz.func192.trans (congrArg some (by kernel_rfl))
 f321:=Tryz.func215.trans (congrArg some (by kernel_rfl))
 f322:=Tryz.func216.trans (congrArg some (by kernel_rfl))
 f337:=Tryz.func201.trans (congrArg some (by kernel_rfl))
 f338:=Tryz.func202.trans (congrArg some (by kernel_rfl))
 t0:=Tryz.underlying0
 a0:=Tryz.isAgg0
 z0:=Tryz.sizeOf0
 v0:=Tryz.zeroValue0
 t2:=Tryz.underlying2
 a2:=Tryz.isAgg2
 z2:=Tryz.sizeOf2
 v2:=Tryz.zeroValue2
 t3:=Tryz.underlying3
 a3:=Tryz.isAgg3
 z3:=Tryz.sizeOf3
 v3:=Tryz.zeroValue3
 t4:=Tryz.underlying4
 a4:=Tryz.isAgg4
 z4:=Tryz.sizeOf4
 v4:=Tryz.zeroValue4
 t5:=Tryz.underlying5
 a5:=Tryz.isAgg5
 z5:=Tryz.sizeOf5
 v5:=Tryz.zeroValue5
 t9:=Tryz.underlying9
 a9:=Tryz.isAgg9
 z9:=Tryz.sizeOf9
 v9:=Tryz.zeroValue9
 t20:=Tryz.underlying20
 a20:=Tryz.isAgg20
 z20:=Tryz.sizeOf20
 v20:=Tryz.zeroValue20
 t21:=Tryz.underlying21
 a21:=Tryz.isAgg21
 z21:=Tryz.sizeOf21
 v21:=Tryz.zeroValue21
 t37:=Tryz.underlying57
 a37:=Tryz.isAgg57
 z37:=Tryz.sizeOf57
 v37:=Tryz.zeroValue57
 t46:=Tryz.underlying124
 a46:=Tryz.isAgg124
 z46:=Tryz.sizeOf124
 v46:=Tryz.zeroValue124
 t51:=Tryz.underlying128
 a51:=Tryz.isAgg128
 z51:=Tryz.sizeOf128
 v51:=Tryz.zeroValue128
 t53:=Tryz.underlying132
 a53:=Tryz.isAgg132
 z53:=Tryz.sizeOf132
 v53:=Tryz.zeroValue132
 t75:=Tryz.underlying89
 a75:=Tryz.isAgg89
 z75:=Tryz.sizeOf89
 v75:=Tryz.zeroValue89
 t76:=Tryz.underlying90
 a76:=Tryz.isAgg90
 z76:=Tryz.sizeOf90
 v76:=Tryz.zeroValue90
 t85:=Tryz.underlying197
 a85:=Tryz.isAgg197
 z85:=Tryz.sizeOf197
 v85:=Tryz.zeroValue197
 t127:=Tryz.underlying93
 a127:=Tryz.isAgg93
 z127:=Tryz.sizeOf93
 v127:=Tryz.zeroValue93
 t143:=Tryz.underlying208
 a143:=Tryz.isAgg208
 z143:=Tryz.sizeOf208
 v143:=Tryz.zeroValue208
 t145:=Tryz.underlying210
 a145:=Tryz.isAgg210
 z145:=Tryz.sizeOf210
 v145:=Tryz.zeroValue210
 t167:=Tryz.underlying196
 a167:=Tryz.isAgg196
 z167:=Tryz.sizeOf196
 v167:=Tryz.zeroValue196
 t168:=Tryz.underlying199
 a168:=Tryz.isAgg199
 z168:=Tryz.sizeOf199
 v168:=Tryz.zeroValue199
 t171:=Tryz.underlying171
 a171:=Tryz.isAgg171
 z171:=Tryz.sizeOf171
 v171:=Tryz.zeroValue171
 t173:=Tryz.underlying174
 a173:=Tryz.isAgg174
 z173:=Tryz.sizeOf174
 v173:=Tryz.zeroValue174
 t175:=Tryz.underlying202
 a175:=Tryz.isAgg202
 z175:=Tryz.sizeOf202
 v175:=Tryz.zeroValue202
 t210:=Tryz.underlying205
 a210:=Tryz.isAgg205
 z210:=Tryz.sizeOf205
 v210:=Tryz.zeroValue205
 t212:=Tryz.underlying184
 a212:=Tryz.isAgg184
 z212:=Tryz.sizeOf184
 v212:=Tryz.zeroValue184
 t213:=Tryz.underlying185
 a213:=Tryz.isAgg185
 z213:=Tryz.sizeOf185
 t232:=Tryz.underlying194
 a232:=Tryz.isAgg194
 z232:=Tryz.sizeOf194
 v232:=Tryz.zeroValue194
 t233:=Tryz.underlying195
 a233:=Tryz.isAgg195
 z233:=Tryz.sizeOf195
 v233:=Tryz.zeroValue195
 g15:=by kernel_rfl
 g16:=by kernel_rfl
 g17:=by kernel_rfl
 g18:=by kernel_rfl
 g19:=by kernel_rfl
 t80:=Tryz.underlying61
 a80:=Tryz.isAgg61
 z80:=Tryz.sizeOf61
 v80:=Tryz.zeroValue61
 i0:=by kernel_rfl
 i2:=by kernel_rfl
 i3:=by kernel_rfl
 i4:=by kernel_rfl
 i5:=by kernel_rfl
 i9:=by kernel_rfl
 i20:=by kernel_rfl
 i21:=by kernel_rfl
 i37:=by kernel_rfl
 i46:=by kernel_rfl
 i51:=by kernel_rfl
 i53:=by kernel_rfl
 i75:=by kernel_rfl
 i76:=by kernel_rfl
 i80:=by kernel_rfl
 i85:=by kernel_rfl
 i127:=by kernel_rfl
 i143:=by kernel_rfl
 i145:=by kernel_rfl
 i167:=by kernel_rfl
 i168:=by kernel_rfl
 i171:=by kernel_rfl
 i173:=by kernel_rfl
 i175:=by kernel_rfl
 i210:=by kernel_rfl
 i212:=by kernel_rfl
 i232:=by kernel_rfl
 i233:=by kernel_rfl
 m15:=by kernel_rfl
 m16:=by kernel_rfl
 m17:=by kernel_rfl
 m18:=by kernel_rfl
 m19:=by kernel_rfl
 c0:=by kernel_rfl
 c2:=by kernel_rfl
 c3:=by kernel_rfl
 c4:=by kernel_rfl
 c5:=by kernel_rfl
 c9:=by kernel_rfl
 c20:=by kernel_rfl
 c21:=by kernel_rfl
 c37:=by kernel_rfl
 c46:=by kernel_rfl
 c51:=by kernel_rfl
 c53:=by kernel_rfl
 c75:=by kernel_rfl
 c76:=by kernel_rfl
 c80:=by kernel_rfl
 c85:=by kernel_rfl
 c127:=by kernel_rfl
 c143:=by kernel_rfl
 c145:=by kernel_rfl
 c167:=by kernel_rfl
 c168:=by kernel_rfl
 c171:=by kernel_rfl
 c173:=by kernel_rfl
 c175:=by kernel_rfl
 c210:=by kernel_rfl
 c212:=by kernel_rfl
 c213:=by kernel_rfl
 c232:=by kernel_rfl
 c233:=by kernel_rfl }
open Go.RowKit in
theorem Tryz.strconv_Atoi_ok (s:ByteArray) (hmax:s.size ≤ 9223372036854775806) (v:Int) (h:Lib.atoiAll s.data.toList = .ok v) (w:World) :
  Calls Tryz.prog 197 #[.string s] w fun e w' => e = .returned (.tuple #[.int .i64 v,.nilIface]) ∧ (w' = w ∨ ∃ t,w' = Lib.bytesWorld w 5 t):=Any.strconv_Atoi_ok Tryz.laysC172 s hmax v h w
def Tryz.lays217_ren:Go.Shelf.Ren:=⟨fun | 217 => 174 | 266 => 193 | n => n,fun | 9 => 9 | 5 => 5 | 3 => 3 | n => n,fun | n => n⟩
theorem Tryz.lays217:Go.Proofs.Lays.n217 Tryz.prog Tryz.lays217_ren:={
 mixed:=by kernel_rfl
 f217:=Tryz.func174.trans (congrArg some (by kernel_rfl))
 f266:=Tryz.func193.trans (congrArg some (by kernel_rfl))
 t3:=Tryz.underlying3
 a3:=Tryz.isAgg3
 z3:=Tryz.sizeOf3
 v3:=Tryz.zeroValue3
 t5:=Tryz.underlying5
 a5:=Tryz.isAgg5
 z5:=Tryz.sizeOf5
 v5:=Tryz.zeroValue5
 t9:=Tryz.underlying9
 a9:=Tryz.isAgg9
 z9:=Tryz.sizeOf9
 v9:=Tryz.zeroValue9 }
open Go.RowKit Go.Lib in
theorem Tryz.stringslite_IndexByte (s:ByteArray) (c:Int) (w:World) :
  Calls Tryz.prog 174 #[.string s,.int .u8 c] w fun e w' => e = .returned (.int .i64 (Lib.indexByte s.data.toList c.toNat.toUInt8)) ∧ w' = w:=Any.stringslite_IndexByte Tryz.lays217 s c w
def Tryz.lays143_ren:Go.Shelf.Ren:=⟨fun | 143 => 126 | 219 => 154 | 217 => 174 | 225 => 175 | 224 => 176 | 267 => 177 | 266 => 193 | 314 => 194 | n => n,fun | 9 => 9 | 3 => 3 | 4 => 4 | 5 => 5 | 46 => 124 | 146 => 154 | 51 => 128 | n => n,fun | 1 => 0 | n => n⟩
theorem Tryz.lays143:Go.Proofs.Lays.n143 Tryz.prog Tryz.lays143_ren:={
 mixed:=by kernel_rfl
 f143:=Tryz.func126.trans (congrArg some (by kernel_rfl))
 f217:=Tryz.func174.trans (congrArg some (by kernel_rfl))
 f219:=Tryz.func154.trans (congrArg some (by kernel_rfl))
 f224:=Tryz.func176.trans (congrArg some (by kernel_rfl))
 f225:=Tryz.func175.trans (congrArg some (by kernel_rfl))
 f266:=Tryz.func193.trans (congrArg some (by kernel_rfl))
 f267:=Tryz.func177.trans (congrArg some (by kernel_rfl))
 f314:=Tryz.func194.trans (congrArg some (by kernel_rfl))
 t3:=Tryz.underlying3
 a3:=Tryz.isAgg3
 z3:=Tryz.sizeOf3
 v3:=Tryz.zeroValue3
 t4:=Tryz.underlying4
 a4:=Tryz.isAgg4
 z4:=Tryz.sizeOf4
 v4:=Tryz.zeroValue4
 t5:=Tryz.underlying5
 a5:=Tryz.isAgg5
 z5:=Tryz.sizeOf5
 v5:=Tryz.zeroValue5
 t9:=Tryz.underlying9
 a9:=Tryz.isAgg9
 z9:=Tryz.sizeOf9
 v9:=Tryz.zeroValue9
 t46:=Tryz.underlying124
 a46:=Tryz.isAgg124
 z46:=Tryz.sizeOf124
 v46:=Tryz.zeroValue124
 t51:=Tryz.underlying128
 a51:=Tryz.isAgg128
 z51:=Tryz.sizeOf128
 v51:=Tryz.zeroValue128
 t146:=Tryz.underlying154
 a146:=Tryz.isAgg154
 z146:=Tryz.sizeOf154
 v146:=Tryz.zeroValue154
 g1:=by kernel_rfl }
open Go.RowKit Go.Lib in
theorem Tryz.strings_Index_one (s:ByteArray) (c:UInt8) (w:World) :
  Calls Tryz.prog 126 #[.string s,.string ⟨#[c]⟩] w fun e w' => e = .returned (.int .i64 (Lib.indexByte s.data.toList c)) ∧ w' = w:=Any.strings_Index_one Tryz.lays143 s c w
def Tryz.lays99_ren:Go.Shelf.Ren:=⟨fun | 99 => 91 | 206 => 123 | n => n,fun | 9 => 9 | 4 => 4 | 3 => 3 | n => n,fun | n => n⟩
theorem Tryz.lays99:Go.Proofs.Lays.n99 Tryz.prog Tryz.lays99_ren:={
 mixed:=by kernel_rfl
 f99:=Tryz.func91.trans (congrArg some (by kernel_rfl))
 f206:=Tryz.func123.trans (congrArg some (by kernel_rfl))
 t3:=Tryz.underlying3
 a3:=Tryz.isAgg3
 z3:=Tryz.sizeOf3
 v3:=Tryz.zeroValue3
 t4:=Tryz.underlying4
 a4:=Tryz.isAgg4
 z4:=Tryz.sizeOf4
 v4:=Tryz.zeroValue4
 t9:=Tryz.underlying9
 a9:=Tryz.isAgg9
 z9:=Tryz.sizeOf9
 v9:=Tryz.zeroValue9 }
open Go.RowKit Go.Lib in
theorem Tryz.strings_HasPrefix (s p:ByteArray) (w:World) :
  Calls Tryz.prog 91 #[.string s,.string p] w fun e w' => e = .returned (.bool (Lib.hasPrefix s.data.toList p.data.toList)) ∧ w' = w:=Any.strings_HasPrefix Tryz.lays99 s p w
def Tryz.lays151_ren:Go.Shelf.Ren:=⟨fun | 151 => 156 | 152 => 178 | 137 => 195 | 119 => 80 | 224 => 176 | 225 => 175 | 217 => 174 | 266 => 193 | n => n,fun | 9 => 9 | 21 => 21 | 4 => 4 | 3 => 3 | 5 => 5 | 0 => 0 | 46 => 124 | n => n,fun | n => n⟩
theorem Tryz.lays151:Go.Proofs.Lays.n151 Tryz.prog Tryz.lays151_ren:={
 mixed:=by kernel_rfl
 f119:=Tryz.func80.trans (congrArg some (by kernel_rfl))
 f137:=Tryz.func195.trans (congrArg some (by kernel_rfl))
 f151:=Tryz.func156.trans (congrArg some (by kernel_rfl))
 f152:=Tryz.func178.trans (congrArg some (by kernel_rfl))
 f217:=Tryz.func174.trans (congrArg some (by kernel_rfl))
 f224:=Tryz.func176.trans (congrArg some (by kernel_rfl))
 f225:=Tryz.func175.trans (congrArg some (by kernel_rfl))
 f266:=Tryz.func193.trans (congrArg some (by kernel_rfl))
 t0:=Tryz.underlying0
 a0:=Tryz.isAgg0
 z0:=Tryz.sizeOf0
 v0:=Tryz.zeroValue0
 t3:=Tryz.underlying3
 a3:=Tryz.isAgg3
 z3:=Tryz.sizeOf3
 v3:=Tryz.zeroValue3
 t4:=Tryz.underlying4
 a4:=Tryz.isAgg4
 z4:=Tryz.sizeOf4
 v4:=Tryz.zeroValue4
 t5:=Tryz.underlying5
 a5:=Tryz.isAgg5
 z5:=Tryz.sizeOf5
 v5:=Tryz.zeroValue5
 t9:=Tryz.underlying9
 a9:=Tryz.isAgg9
 z9:=Tryz.sizeOf9
 v9:=Tryz.zeroValue9
 t21:=Tryz.underlying21
 a21:=Tryz.isAgg21
 z21:=Tryz.sizeOf21
 v21:=Tryz.zeroValue21
 t46:=Tryz.underlying124
 a46:=Tryz.isAgg124
 z46:=Tryz.sizeOf124
 v46:=Tryz.zeroValue124 }
open Go.RowKit Go.Lib in
theorem Tryz.strings_ContainsRune_ascii (s:ByteArray) (r:Int) (w:World) (h0:0 ≤ r) (h1:r < 128) :
  Calls Tryz.prog 156 #[.string s,.int .i32 r] w fun e w' => e = .returned (.bool (decide (0 ≤ Lib.indexByte s.data.toList r.toNat.toUInt8))) ∧ w' = w:=Any.strings_ContainsRune_ascii Tryz.lays151 s r w h0 h1
def Tryz.lays105_ren:Go.Shelf.Ren:=⟨fun | 105 => 78 | 212 => 113 | 99 => 91 | 165 => 79 | 166 => 59 | 170 => 114 | 169 => 28 | 263 => 147 | 264 => 148 | 206 => 123 | 240 => 103 | 241 => 115 | 276 => 137 | 277 => 149 | n => n,fun | 9 => 9 | 3 => 3 | 4 => 4 | 20 => 20 | 0 => 0 | 46 => 124 | 109 => 125 | 5 => 5 | 72 => 59 | 76 => 90 | 51 => 128 | 146 => 154 | 53 => 132 | 148 => 156 | 70 => 56 | 37 => 57 | 75 => 89 | 127 => 93 | 164 => 146 | 80 => 61 | n => n,fun | n => n⟩
theorem Tryz.lays105:Go.Proofs.Lays.n105 Tryz.prog Tryz.lays105_ren:={
 mixed:=by kernel_rfl
 f99:=Tryz.func91.trans (congrArg some (by kernel_rfl))
 f105:=Tryz.func78.trans (congrArg some (by kernel_rfl))
 f165:=Tryz.func79.trans (congrArg some (by kernel_rfl))
 f166:=Tryz.func59.trans (congrArg some (by kernel_rfl))
 f169:=Tryz.func28.trans (congrArg some (by kernel_rfl))
 f170:=Tryz.func114.trans (congrArg some (by kernel_rfl))
 f206:=Tryz.func123.trans (congrArg some (by kernel_rfl))
 f212:=Tryz.func113.trans (congrArg some (by kernel_rfl))
 f240:=Tryz.func103.trans (congrArg some (by kernel_rfl))
 f241:=Tryz.func115.trans (congrArg some (by kernel_rfl))
 f263:=Tryz.func147.trans (congrArg some (by kernel_rfl))
 f264:=Tryz.func148.trans (congrArg some (by kernel_rfl))
 f276:=Tryz.func137.trans (congrArg some (by kernel_rfl))
 f277:=Tryz.func149.trans (congrArg some (by kernel_rfl))
 t0:=Tryz.underlying0
 a0:=Tryz.isAgg0
 z0:=Tryz.sizeOf0
 v0:=Tryz.zeroValue0
 t3:=Tryz.underlying3
 a3:=Tryz.isAgg3
 z3:=Tryz.sizeOf3
 v3:=Tryz.zeroValue3
 t4:=Tryz.underlying4
 a4:=Tryz.isAgg4
 z4:=Tryz.sizeOf4
 v4:=Tryz.zeroValue4
 t5:=Tryz.underlying5
 a5:=Tryz.isAgg5
 z5:=Tryz.sizeOf5
 v5:=Tryz.zeroValue5
 t9:=Tryz.underlying9
 a9:=Tryz.isAgg9
 z9:=Tryz.sizeOf9
 v9:=Tryz.zeroValue9
 t20:=Tryz.underlying20
 a20:=Tryz.isAgg20
 z20:=Tryz.sizeOf20
 v20:=Tryz.zeroValue20
 t37:=Tryz.underlying57
 a37:=Tryz.isAgg57
 z37:=Tryz.sizeOf57
 v37:=Tryz.zeroValue57
 t46:=Tryz.underlying124
 a46:=Tryz.isAgg124
 z46:=Tryz.sizeOf124
 v46:=Tryz.zeroValue124
 t51:=Tryz.underlying128
 a51:=Tryz.isAgg128
 z51:=Tryz.sizeOf128
 v51:=Tryz.zeroValue128
 t53:=Tryz.underlying132
 a53:=Tryz.isAgg132
 z53:=Tryz.sizeOf132
 v53:=Tryz.zeroValue132
 t70:=Tryz.underlying56
 a70:=Tryz.isAgg56
 z70:=Tryz.sizeOf56
 v70:=Tryz.zeroValue56
 t72:=Tryz.underlying59
 a72:=Tryz.isAgg59
 z72:=Tryz.sizeOf59
 v72:=Tryz.zeroValue59
 t75:=Tryz.underlying89
 a75:=Tryz.isAgg89
 z75:=Tryz.sizeOf89
 v75:=Tryz.zeroValue89
 t76:=Tryz.underlying90
 a76:=Tryz.isAgg90
 z76:=Tryz.sizeOf90
 v76:=Tryz.zeroValue90
 t109:=Tryz.underlying125
 a109:=Tryz.isAgg125
 z109:=Tryz.sizeOf125
 v109:=Tryz.zeroValue125
 t127:=Tryz.underlying93
 a127:=Tryz.isAgg93
 z127:=Tryz.sizeOf93
 v127:=Tryz.zeroValue93
 t146:=Tryz.underlying154
 a146:=Tryz.isAgg154
 z146:=Tryz.sizeOf154
 v146:=Tryz.zeroValue154
 t148:=Tryz.underlying156
 a148:=Tryz.isAgg156
 z148:=Tryz.sizeOf156
 v148:=Tryz.zeroValue156
 t164:=Tryz.underlying146
 a164:=Tryz.isAgg146
 z164:=Tryz.sizeOf146
 v164:=Tryz.zeroValue146 }
theorem Tryz.Builder_Extra_105:Builder.Extra Tryz.prog Tryz.lays105_ren:={
 sizeBuilder:=by kernel_rfl
 liesBuilder:=by kernel_rfl
 t5:=Tryz.underlying5
 a5:=Tryz.isAgg5
 z5:=Tryz.sizeOf5
 v5:=Tryz.zeroValue5
 infoByte:=by kernel_rfl
 cellsByte:=by kernel_rfl
 sizeByte:=by kernel_rfl
 neB5:=by decide }
open Go.RowKit Go.Lib in
theorem Tryz.strings_Repeat (s:ByteArray) (c:Nat) (w:World) (hc:c ≤ 9223372036854775807) (hlen:s.size * c ≤ 140737488355328) :
  Calls Tryz.prog 78 #[.string s,.int .i64 c] w fun e w' => e = .returned (.string ⟨(Lib.repeatL s.data.toList c).toArray⟩) ∧ Below w.heap.size w w':=Any.strings_Repeat Tryz.lays105 Tryz.Builder_Extra_105 s c w hc hlen
def Tryz.lays197_ren:Go.Shelf.Ren:=⟨fun | 197 => 151 | 260 => 173 | n => n,fun | 9 => 9 | 21 => 21 | 3 => 3 | 4 => 4 | 5 => 5 | 105 => 134 | 119 => 187 | 0 => 0 | 46 => 124 | 139 => 190 | 138 => 189 | n => n,fun | 3 => 2 | 4 => 3 | n => n⟩
theorem Tryz.lays197:Go.Proofs.Lays.n197 Tryz.prog Tryz.lays197_ren:={
 mixed:=by kernel_rfl
 f197:=Tryz.func151.trans (congrArg some (by kernel_rfl))
 f260:=Tryz.func173.trans (congrArg some (by kernel_rfl))
 t0:=Tryz.underlying0
 a0:=Tryz.isAgg0
 z0:=Tryz.sizeOf0
 v0:=Tryz.zeroValue0
 t3:=Tryz.underlying3
 a3:=Tryz.isAgg3
 z3:=Tryz.sizeOf3
 v3:=Tryz.zeroValue3
 t4:=Tryz.underlying4
 a4:=Tryz.isAgg4
 z4:=Tryz.sizeOf4
 v4:=Tryz.zeroValue4
 t5:=Tryz.underlying5
 a5:=Tryz.isAgg5
 z5:=Tryz.sizeOf5
 v5:=Tryz.zeroValue5
 t9:=Tryz.underlying9
 a9:=Tryz.isAgg9
 z9:=Tryz.sizeOf9
 v9:=Tryz.zeroValue9
 t21:=Tryz.underlying21
 a21:=Tryz.isAgg21
 z21:=Tryz.sizeOf21
 v21:=Tryz.zeroValue21
 t46:=Tryz.underlying124
 a46:=Tryz.isAgg124
 z46:=Tryz.sizeOf124
 v46:=Tryz.zeroValue124
 t105:=Tryz.underlying134
 a105:=Tryz.isAgg134
 z105:=Tryz.sizeOf134
 v105:=Tryz.zeroValue134
 t119:=Tryz.underlying187
 a119:=Tryz.isAgg187
 z119:=Tryz.sizeOf187
 t138:=Tryz.underlying189
 a138:=Tryz.isAgg189
 z138:=Tryz.sizeOf189
 v138:=Tryz.zeroValue189
 t139:=Tryz.underlying190
 a139:=Tryz.isAgg190
 z139:=Tryz.sizeOf190
 v139:=Tryz.zeroValue190
 g3:=by kernel_rfl
 g4:=by kernel_rfl }
open Go.RowKit Go.Lib in
theorem Tryz.utf8_DecodeRuneInString (s:ByteArray) (w:World) (hT:Lib.Utf8Tabs 2 3 w) :
  Calls Tryz.prog 151 #[.string s] w fun e w' => e = .returned (.tuple #[.int .i32 (Lib.decodeGo s).1,.int .i64 (Lib.decodeGo s).2]) ∧ Below w.heap.size w w':=Any.utf8_DecodeRuneInString Tryz.lays197 s w hT
end Go.Proofs
namespace Go.Proofs.YteoogioanjkacaaGreatDoor.Num
open Go.Lib
theorem dd_small {u:Nat} (h:u < 10):decDigits u = [UInt8.ofNat (48 + u)]:=by rw [decDigits,dif_pos h]
theorem dd_big {u:Nat} (h:¬ u < 10):decDigits u = decDigits (u / 10) ++ [UInt8.ofNat (48 + u % 10)]:=by rw [decDigits,dif_neg h]
theorem dig_nat {d:Nat} (h:d < 10):(UInt8.ofNat (48 + d)).toNat = 48 + d:=by
 rw [UInt8.toNat_ofNat'];omega
theorem dd_bytes (u:Nat):∀ c ∈ decDigits u,48 ≤ c.toNat ∧ c.toNat ≤ 57:=by
 induction u using Nat.strongRecOn with
 | _ u ih =>
  by_cases h:u < 10
  ·rw [dd_small h]
   intro c hc;rw [List.mem_singleton] at hc;subst hc;rw [dig_nat h];omega
  ·rw [dd_big h]
   intro c hc
   rcases List.mem_append.1 hc with hc | hc
   ·exact ih (u / 10) (by omega) c hc
   ·rw [List.mem_singleton] at hc
    subst hc;rw [dig_nat (by omega)]
    omega
theorem dd_ne (u:Nat):decDigits u ≠ []:=by
 intro h;have:=congrArg List.length h;rw [decDigits_length] at this;have:=nDigits_pos u;simp at *;omega
def val (l:List UInt8):Nat:=l.foldl (fun a c => a * 10 + (c.toNat - 48)) 0
theorem val_snoc (l:List UInt8) (c:UInt8):val (l ++ [c]) = val l * 10 + (c.toNat - 48):=by simp [val]
theorem val_dd (u:Nat):val (decDigits u) = u:=by
 induction u using Nat.strongRecOn with
 | _ u ih =>
  by_cases h:u < 10
  ·rw [dd_small h]
   simp [val];omega
  ·rw [dd_big h,val_snoc,ih (u / 10) (by omega),dig_nat (by omega)]
   omega
theorem dd_inj {u v:Nat} (h:decDigits u = decDigits v):u = v:=by rw [← val_dd u,← val_dd v,h]
theorem parse_append:∀ (l r:List UInt8) (acc a:Nat),parseUint10 acc l = .ok a → parseUint10 acc (l ++ r) = parseUint10 a r
 | [],r,acc,a,h => by
  rw [parseUint10] at h;injection h with h
  subst h;rfl
 | c :: l,r,acc,a,h => by
  rw [List.cons_append,parseUint10];rw [parseUint10] at h;split at h
  ·rename_i h1
   rw [if_pos h1];split at h
   ·cases h
   ·rename_i h2
    rw [if_neg h2];split at h
    ·cases h
    ·rename_i h3
     rw [if_neg h3];exact parse_append l r _ a h
  ·cases h
theorem parse_dd (u:Nat) (hu:u < 18446744073709551616):parseUint10 0 (decDigits u) = .ok u:=by
 induction u using Nat.strongRecOn with
 | _ u ih =>
  by_cases h:u < 10
  ·rw [dd_small h,parseUint10,dig_nat h,if_pos (by omega),if_neg (by omega),if_neg (by omega),parseUint10]
   congr 1;omega
  ·rw [dd_big h,parse_append _ _ _ _ (ih (u / 10) (by omega) (by omega)),parseUint10,dig_nat (by omega),if_pos (by omega),if_neg (by omega),if_neg (by omega),parseUint10]
   congr 1;omega
theorem mag_dd (u:Nat) (hu:u < 18446744073709551616):parseMag (decDigits u) = .ok u:=by
 rw [parseMag,if_neg (dd_ne u),parse_dd u hu]
theorem dd_cons (u:Nat):∃ c r,decDigits u = c :: r ∧ 48 ≤ c.toNat ∧ c.toNat ≤ 57:=by
 cases h:decDigits u with
 | nil => exact absurd h (dd_ne u)
 | cons c r => exact ⟨c,r,rfl,dd_bytes u c (by rw [h];simp)⟩
theorem atoi_dd (u:Nat) (hu:u < 9223372036854775808):atoiAll (decDigits u) = .ok (u:Int):=by
 obtain ⟨c,r,h,h1,h2⟩:=dd_cons u;have hm:=mag_dd u (by omega)
 rw [h] at hm ⊢;simp only [atoiAll];rw [if_neg (show ¬ (c.toNat = 43 ∨ c.toNat = 45) by omega),hm]
 simp only;rw [if_neg (by omega),if_neg (by omega),if_neg (by omega)]
theorem atoi_neg (u:Nat) (hu:u ≤ 9223372036854775808):atoiAll (45 :: decDigits u) = .ok (-(u:Int)):=by
 have hm:=mag_dd u (by omega)
 have h45:(45:UInt8).toNat = 45:=rfl;simp only [atoiAll];rw [if_pos (show (45:UInt8).toNat = 43 ∨ (45:UInt8).toNat = 45 by omega),hm]
 simp only;rw [if_neg (by omega),if_neg (by omega),if_pos h45]
def num (n:Int):List UInt8:=if n < 0 then 194 :: 175 :: decDigits n.natAbs else decDigits n.natAbs
theorem num_neg {n:Int} (h:n < 0):num n = 194 :: 175 :: decDigits n.natAbs:=by rw [num,if_pos h]
theorem num_pos {n:Int} (h:¬ n < 0):num n = decDigits n.natAbs:=by rw [num,if_neg h]
theorem num_inj {m n:Int} (h:num m = num n):m = n:=by
 by_cases hm:m < 0
 ·by_cases hn:n < 0
  ·rw [num_neg hm,num_neg hn] at h
   simp only [List.cons.injEq,true_and] at h;have:=dd_inj h;omega
  ·rw [num_neg hm,num_pos hn] at h
   obtain ⟨c,r,hc,h1,h2⟩:=dd_cons n.natAbs;rw [hc] at h;simp only [List.cons.injEq] at h;rw [← h.1] at h2;exact absurd h2 (by decide)
 ·by_cases hn:n < 0
  ·rw [num_pos hm,num_neg hn] at h
   obtain ⟨c,r,hc,h1,h2⟩:=dd_cons m.natAbs;rw [hc] at h;simp only [List.cons.injEq] at h;rw [h.1] at h2;exact absurd h2 (by decide)
  ·rw [num_pos hm,num_pos hn] at h
   have:=dd_inj h;omega
theorem num_ne (n:Int):num n ≠ []:=by
 unfold num;split
 ·simp
 ·exact dd_ne _
theorem num_noE (n:Int):∀ c ∈ num n,c ≠ 69:=by
 intro c hc he;subst he;unfold num at hc;split at hc
 ·rcases List.mem_cons.1 hc with h | hc
  ·exact absurd h (by decide)
  ·rcases List.mem_cons.1 hc with h | hc
   ·exact absurd h (by decide)
   ·have:=dd_bytes _ _ hc
    exact absurd this.2 (by decide)
 ·have:=dd_bytes _ _ hc
  exact absurd this.2 (by decide)
theorem dd_len {u k:Nat} (hk:1 ≤ k) (h:u < 10 ^ k):(decDigits u).length ≤ k:=by
 rw [decDigits_length]
 induction k generalizing u with
 | zero => omega
 | succ k ih =>
  by_cases hu:u < 10
  ·rw [nDigits_small hu];omega
  ·rw [nDigits_big hu]
   by_cases hk0:k = 0
   ·subst hk0;simp at h;omega
   ·have:=ih (u:=u / 10) (by omega) (by rw [Nat.pow_succ] at h;omega)
    omega
theorem num_len {n:Int} (h:In n):(num n).length ≤ 21:=by
 have h1:=h.1;have h2:=h.2
 have hp:(10:Nat) ^ 19 = 10000000000000000000:=by decide
 have:=dd_len (u:=n.natAbs) (k:=19) (by omega) (by omega)
 unfold num;split
 ·simp only [List.length_cons];omega
 ·omega
theorem num_len_exp {n:Int} (h1:-32768 ≤ n) (h2:n ≤ 32767):(num n).length ≤ 7:=by
 have hp:(10:Nat) ^ 5 = 100000:=by decide
 have:=dd_len (u:=n.natAbs) (k:=5) (by omega) (by omega)
 unfold num;split
 ·simp only [List.length_cons];omega
 ·omega
def text (m e:Int):List UInt8:=if rightD m e = true then (if e = 0 then num m else num m ++ 69 :: num e) else []
theorem text_wrong {m e:Int} (h:rightD m e = false):text m e = []:=by rw [text,h];rfl
theorem text_plain {m:Int} (h:rightD m 0 = true):text m 0 = num m:=by rw [text,if_pos h,if_pos rfl]
theorem text_exp {m e:Int} (h:rightD m e = true) (he:e ≠ 0):text m e = num m ++ 69 :: num e:=by rw [text,if_pos h,if_neg he]
theorem text_ne {m e:Int} (h:rightD m e = true):text m e ≠ []:=by
 by_cases he:e = 0
 ·subst he;rw [text_plain h];exact num_ne m
 ·rw [text_exp h he]
  simp
theorem text_len {m e:Int} (hm:In m):(text m e).length ≤ 29:=by
 by_cases hr:rightD m e = true
 ·have hR:=(rightD_iff hm).1 hr
  have he:-32768 ≤ e ∧ e ≤ 32767:=by rcases hR with ⟨_,h⟩ | h <;> omega
  have h1:=num_len hm;have h2:=num_len_exp he.1 he.2
  by_cases h0:e = 0
  ·subst h0;rw [text_plain hr];omega
  ·rw [text_exp hr h0]
   simp only [List.length_append,List.length_cons];omega
 ·rw [text_wrong (by simpa using hr)];simp
open Go.RowKit Go.Sort Go.Lib
theorem below_grow (w:World) (k:Nat) (os:Array Obj):Grow w (Sort.grow (w.drewN k) os) :=
 ⟨rfl,rfl,rfl,by simp [Sort.grow],fun b hb => by simp [Sort.grow,Array.getElem?_append,hb]⟩
theorem holds_zero0 (w:World) (T:TypeId) (nd:Nat) (hs:nd ≤ 24):Holds (fun (b:UInt8) => Value.int .u8 (b.toNat:Int)) (w.alloc (.cells zeros24 T)) w.heap.size 0 (Array.replicate nd (0:UInt8)):=fun j hj => by
 have hj':j < nd:=by simpa using hj
 refine ⟨?_,World.frozen?_alloc_new _ _ _ _⟩;rw [World.cell?_alloc_new,zeros24_at _ (by omega),getElem!_pos _ j hj]
 simp
theorem fin0 (w:World) (o:Obj) (dk:Array UInt8) (k:Nat):Grow w ((putRow (fun (b:UInt8) => Value.int .u8 (b.toNat:Int)) (w.alloc o) w.heap.size 0 dk).drewN k):=by
 rw [alloc_eq_grow];obtain ⟨os',_,e⟩:=putRow_grow_new (fun (b:UInt8) => Value.int .u8 (b.toNat:Int)) w #[o] w.heap.size 0 dk (Nat.le_refl _);rw [e];exact below_grow w k os'
def Pows (w:World):Prop:=Lib.TabIs Tryz.prog w "internal/strconv.uint64pow10" .u64 Lib.pow10Tab
theorem ifmt_any (u:Nat) (hu64:u < 18446744073709551616) (w:World) (htab:Pows w) :
  Calls Tryz.prog 150 #[.int .u64 u,.int .i64 10] w fun e w' => e = .returned (.string ⟨(decDigits u).toArray⟩) ∧ Grow w w':=by
 by_cases hs:u < 100
 ·go_enter Tryz.func150,Tryz.ntmps150
  go_wp2_with fail;refine (Tryz.internal_strconv_small u hs _).mono ?_;rintro e w' ⟨rfl,rfl⟩;go_wp2;go_ret;exact ⟨rfl,Grow.refl _⟩
 ·have hu1:1 ≤ u:=by omega
  have hnd20:Lib.nDigits u ≤ 20:=by have:=Lib.numDigits_eq u hu1 hu64;split at this <;> omega
  have hal:Tryz.prog.arrayLen 171 = 24:=by kernel_rfl
  have hsl:∀ W,(Instr.sliceAt 171 (.pointer (some ⟨w.heap.size,0,none⟩)) none (some (.int .i64 (Lib.nDigits u:Int))) none).run Tryz.prog W = .ok (.slice (some ⟨w.heap.size,0,none⟩) (Lib.nDigits u) 24) W:=fun W => by
   rw [run_sliceAt_array_h W 171 ⟨w.heap.size,0,none⟩ (by kernel_rfl) .i64 (Lib.nDigits u:Int) (by omega) (by rw [hal];omega)]
   rw [hal,show Tryz.prog.elem 171 = 5 by kernel_rfl]
   go_simp
  have hH0:=holds_zero0 w 171 (Lib.nDigits u) (by omega)
  have hfmt:=Tryz.internal_strconv_formatBase10 w.heap.size 0 24 u (Array.replicate (Lib.nDigits u) 0) (w.alloc (.cells Lib.zeros24 171)) hH0 (by rw [Array.size_replicate];exact Lib.lt_pow_nDigits u) hu64 (by rw [Array.size_replicate];omega)
  rw [Array.size_replicate] at hfmt;have HH0:=Hh hH0;have HF:=Hh hfmt;have HT:=Hh htab;clear hH0 hal hfmt htab
  go_enter Tryz.func150,Tryz.ntmps150
  go_wp2_with fail;refine (Tryz.internal_strconv_numDigits u hu1 hu64 _ (Lib.tabIs_alloc HT.out _)).mono ?_;rintro e w' ⟨rfl,rfl⟩;go_wp2_with fail;refine (HF.out).mono ?_;rintro e w' ⟨rfl,k,v',dk,rfl,hF⟩;have hcv:(convert 57 9 (.slice (some ⟨w.heap.size,0,none⟩) (Lib.nDigits u) 24)).run Tryz.prog ((putRow (fun (b:UInt8) => Value.int .u8 (b.toNat:Int)) (w.alloc (.cells Lib.zeros24 171)) w.heap.size 0 dk).drewN k) = .ok (.string ⟨(Lib.decDigits u).toArray⟩) ((putRow (fun (b:UInt8) => Value.int .u8 (b.toNat:Int)) (w.alloc (.cells Lib.zeros24 171)) w.heap.size 0 dk).drewN k):=by
   have h:=run_convert_bytes_back (P:=Tryz.prog) ((putRow (fun (b:UInt8) => Value.int .u8 (b.toNat:Int)) (w.alloc (.cells Lib.zeros24 171)) w.heap.size 0 dk).drewN k) 57 9 5 ⟨w.heap.size,0,none⟩ 24 (Lib.decDigits u) (by kernel_rfl) (by kernel_rfl) (by kernel_rfl) (fun j hj => by
    rw [Lib.row_is_numeral hF j hj,Lib.add_plain,World.cell?_drewN]
    exact cell?_putRow (fun (b:UInt8) => Value.int .u8 (b.toNat:Int)) _ w.heap.size 0 _ dk HH0.out (by rw [hF.size,Array.size_replicate]) j (by rw [hF.size];rw [Lib.decDigits_length] at hj;exact hj))
   rw [Lib.decDigits_length] at h;exact h
  have HG:=Hh (fin0 w (.cells Lib.zeros24 171) dk k);clear hF HF HH0;go_wp2;go_ret;exact ⟨rfl,HG.out⟩
theorem fmt_any (u:Nat) (hu64:u < 18446744073709551616) (w:World) (htab:Pows w) :
  Calls Tryz.prog 120 #[.int .u64 u,.int .i64 10] w fun e w' => e = .returned (.string ⟨(decDigits u).toArray⟩) ∧ Grow w w':=by
 have HC:=Hh (ifmt_any u hu64 w htab);clear htab
 go_enter Tryz.func120,Tryz.ntmps120
 go_wp2_with fail;refine (HC.out).mono ?_;rintro e w' ⟨rfl,hg⟩;have HG:=Hh hg;clear hg;go_wp2;go_ret;exact ⟨rfl,HG.out⟩
open Go.RowKit Go.Lib
theorem var_grow {w w':World} {name:String} {cs:Array Value} (h:w.var? Tryz.prog name = some cs) (hg:Grow w w'):w'.var? Tryz.prog name = some cs:=by
 unfold World.var? at *
 cases hn:Tryz.prog.globalNamed name with
 | none => simp [hn] at h
 | some g =>
  simp only [hn,Option.bind_some] at h ⊢;have hlt:g < w.heap.size:=by
   rcases Nat.lt_or_ge g w.heap.size with h' | h'
   ·exact h'
   ·rw [Array.getElem?_eq_none h'] at h;simp at h
  rw [hg.block g hlt];exact h
theorem Pows.grow {w w':World} (h:Pows w) (hg:Grow w w'):Pows w':=var_grow h hg
theorem str_app (a b:List UInt8):(⟨a.toArray⟩:ByteArray) ++ ⟨b.toArray⟩ = ⟨(a ++ b).toArray⟩:=by
 apply ByteArray.ext;simp
theorem sizeof_any (n:Int) (w:World) (hn:In n) :
  Calls Tryz.prog 121 #[.int .i64 n] w fun e w' => e = .returned (.int .u64 n.natAbs) ∧ w' = w:=by
 have h1:=hn.1;have h2:=hn.2
 by_cases h:n < 0
 ·have hw:IntKind.u64.wrap n = n + 18446744073709551616:=by rw [IntKind.wrap_u64];omega
  have hw2:IntKind.u64.wrap (-(n + 18446744073709551616)) = (n.natAbs:Int):=by rw [IntKind.wrap_u64];omega
  go_enter Tryz.func121,Tryz.ntmps121
  go_wp2;go_ret;exact ⟨rfl,rfl⟩
 ·have hw:IntKind.u64.wrap n = (n.natAbs:Int):=by rw [IntKind.wrap_u64];omega
  go_enter Tryz.func121,Tryz.ntmps121
  go_wp2;go_ret;exact ⟨rfl,rfl⟩
theorem decimals_any (n : Int) (w : World) (hn : In n) (hp : Pows w) :
    Calls Tryz.prog 88 #[.int .i64 n] w fun e w' => e = .returned (.string ⟨(num n).toArray⟩) ∧ Grow w w' := by
  have HS := Lib.hid (sizeof_any n w hn)
  have HL : Hid (¬ 9223372036854775807 < 2 + (decDigits n.natAbs).length) := Lib.hid (by have h1 := hn.1; have h2 := hn.2; have hp : (10 : Nat) ^ 19 = 10000000000000000000 := by decide
                                                                                         have := dd_len (u := n.natAbs) (k := 19) (by omega) (by omega); omega)
  have HF := Lib.hid (fmt_any n.natAbs (by have := hn.1; have := hn.2; omega) w hp)
  clear hn hp
  go_enter Tryz.func88, Tryz.ntmps88
  go_wp2_with fail
  refine (HS.out).mono ?_
  rintro e w' ⟨rfl, rfl⟩
  go_wp2_with fail
  refine (HF.out).mono ?_
  rintro e w1 ⟨rfl, hg⟩
  have HG := Lib.hid hg
  have hl : ¬ 9223372036854775807 < 2 + (decDigits n.natAbs).length := HL.out
  clear hg HS HF
  by_cases h : n < 0
  · go_wp2
    go_ret
    exact ⟨by rw [num_neg h]; exact congrArg (fun s => Ending.returned (Value.string s)) (str_app [194, 175] _), HG.out⟩
  · go_wp2
    go_ret
    exact ⟨by rw [num_pos (by omega)]; rfl, HG.out⟩
theorem right_exp {m e:Int} (hm:In m) (h:rightD m e = true):-32768 ≤ e ∧ e ≤ 32767:=by
 rcases (rightD_iff hm).1 h with ⟨_,h⟩ | h <;> omega
theorem text_join (m e:Int):Ending.returned (.string ((⟨(num m).toArray⟩:ByteArray) ++ ⟨#[69]⟩ ++ ⟨(num e).toArray⟩)) = .returned (.string ⟨(num m ++ 69 :: num e).toArray⟩):=by
 have h:=str_app (num m) [69];have h2:=str_app (num m ++ [69]) (num e);rw [← h] at h2;rw [show num m ++ 69 :: num e = num m ++ [69] ++ num e by simp]
 exact congrArg (fun s => Ending.returned (Value.string s)) h2
theorem text_any (m e:Int) (w:World) (hm:In m) (he:In e) (hp:Pows w) :
  Calls Tryz.prog 46 #[.agg #[.int .i64 m,.int .i64 e]] w fun x w' => x = .returned (.string ⟨(text m e).toArray⟩) ∧ Grow w w':=by
 have HC:=Hh (fun W => right_any m e W hm he);have HD:=Hh (fun W (n:Int) (hn:In n) (hp:Pows W) => decimals_any n W hn hp);have HP:=Hh hp;have HM:=Hh hm;have HE:=Hh he;clear hm he hp
 go_enter Tryz.func46,Tryz.ntmps46
 go_wp2_with fail;refine (HC.out _).mono ?_;rintro x w1 ⟨rfl,hg⟩;have hb:=(boxed_new w (.int .i64 m) (.int .i64 e) 41).grow hg;have hc0:=hb.fst;have hc1:=hb.snd;have HB:=Hh hb;have HG:=Hh ((grow_new w _).trans hg);have HP1:=Hh (HP.out.grow HG.out);clear hb hg HC HP;obtain ⟨r,hr⟩:∃ r,rightD m e = r:=⟨_,rfl⟩;rw [hr]
 cases r
 ·have HT:=Hh (text_wrong hr)
  clear hr;go_wp2;go_ret;exact ⟨by rw [HT.out];rfl,HG.out⟩
 ·by_cases h0:e = 0
  ·subst h0
   have HT:=Hh (text_plain hr);clear hr;go_wp2_with fail;refine (HD.out _ m HM.out HP1.out).mono ?_;rintro x w2 ⟨rfl,hg2⟩;have HG2:=Hh (HG.out.trans hg2);clear hg2;go_wp2;go_ret;exact ⟨by rw [HT.out];rfl,HG2.out⟩
  ·have HT:=Hh (text_exp hr h0)
   have h0b:(e == 0) = false:=by simpa using h0
   have hl1:=num_len HM.out;have hl2:=num_len HE.out;have hs1:¬ 9223372036854775807 < (num m).length + 1:=by omega
   have hs2:¬ 9223372036854775807 < (num m).length + 1 + (num e).length:=by omega
   clear hr h0 hl1 hl2;go_wp2;refine wp_region_R Grow (n:=9) rfl (by kernel_rfl) ?_
   intro W0 hW0e hW0;have hG0:Grow w1 W0:=hW0;have hd0:∀ wg,Grow W0 wg → wg.cell? ⟨w.heap.size,0,none⟩ = some (.int .i64 m):=fun wg h => ((HB.out.grow hG0).grow h).fst;have hd1:∀ wg,Grow W0 wg → wg.cell? ⟨w.heap.size,1,none⟩ = some (.int .i64 e):=fun wg h => ((HB.out.grow hG0).grow h).snd;clear hW0e;refine wpR_take growOrd (i:=0) (v:=?vf1) rfl (by kernel_rfl) (by kernel_rfl) (by kernel_rfl) (fun _ _ _ h => h) (by rfl) ?hf1 ?rf1
   case hf1 => (intro wg hSw;go_simp <;> with_reducible rfl)
   simp only [Act.put,List.setIfInBounds_toArray,List.set_cons_zero,List.set_cons_succ];refine wpR_take growOrd (i:=1) (v:=?vf2) rfl (by kernel_rfl) (by kernel_rfl) (by kernel_rfl) (fun _ _ _ h => h) (by rfl) ?hf2 ?rf2
   case hf2 => (intro wg hSw;go_simp <;> with_reducible rfl)
   simp only [Act.put,List.setIfInBounds_toArray,List.set_cons_zero,List.set_cons_succ];refine wpR_take growOrd (i:=4) (v:=?vf3) rfl (by kernel_rfl) (by kernel_rfl) (by kernel_rfl) (fun _ _ _ h => h) (by rfl) ?hf3 ?rf3
   case hf3 => (intro wg hSw;go_simp <;> with_reducible rfl)
   simp only [Act.put,List.setIfInBounds_toArray,List.set_cons_zero,List.set_cons_succ];refine wpR_take growOrd (i:=5) (v:=?vf4) rfl (by kernel_rfl) (by kernel_rfl) (by kernel_rfl) (fun _ _ _ h => h) (by rfl) ?hf4 ?rf4
   case hf4 => (intro wg hSw;go_simp <;> with_reducible rfl)
   simp only [Act.put,List.setIfInBounds_toArray,List.set_cons_zero,List.set_cons_succ];refine wpR_one (i:=2) (by kernel_rfl) ?_
   refine wpR_op (i:=2) rfl (by rfl) (fun K hK => ?_)
   go_simp;refine (HD.out W0 m HM.out (HP1.out.grow (hG0.trans (Grow.refl W0)))).mono ?_;rintro x wM2 ⟨rfl,hM2⟩;refine hK.out _ _ hM2 ?_;clear hK K
   try simp only [Act.put,List.setIfInBounds_toArray,List.set_cons_zero,List.set_cons_succ]
   refine wpR_take growOrd (i:=3) (v:=?vf5) rfl (by kernel_rfl) (by kernel_rfl) (by kernel_rfl) (fun _ _ _ h => h) (by rfl) ?hf5 ?rf5
   case hf5 => (intro wg hSw;go_simp <;> with_reducible rfl)
   simp only [Act.put,List.setIfInBounds_toArray,List.set_cons_zero,List.set_cons_succ];refine wpR_one (i:=6) (by kernel_rfl) ?_
   refine wpR_op (i:=6) rfl (by rfl) (fun K hK => ?_)
   go_simp;refine (HD.out wM2 e HE.out (HP1.out.grow (hG0.trans (Grow.trans (Grow.refl W0) hM2)))).mono ?_;rintro x wM6 ⟨rfl,hM6⟩;refine hK.out _ _ hM6 ?_;clear hK K
   try simp only [Act.put,List.setIfInBounds_toArray,List.set_cons_zero,List.set_cons_succ]
   refine wpR_take growOrd (i:=7) (v:=?vf6) rfl (by kernel_rfl) (by kernel_rfl) (by kernel_rfl) (fun _ _ _ h => h) (by rfl) ?hf6 ?rf6
   case hf6 => (intro wg hSw;go_simp <;> with_reducible rfl)
   simp only [Act.put,List.setIfInBounds_toArray,List.set_cons_zero,List.set_cons_succ];refine wpR_take growOrd (i:=8) (v:=?vf7) rfl (by kernel_rfl) (by kernel_rfl) (by kernel_rfl) (fun _ _ _ h => h) (by rfl) ?hf7 ?rf7
   case hf7 => (intro wg hSw;go_simp <;> with_reducible rfl)
   simp only [Act.put,List.setIfInBounds_toArray,List.set_cons_zero,List.set_cons_succ];refine wpR_done (by kernel_rfl) ?_
   go_wp2;go_ret;exact ⟨by rw [HT.out];exact text_join m e,HG.out.trans (hG0.trans (Grow.trans (Grow.trans (Grow.refl W0) hM2) hM6))⟩
open Go.RowKit Go.Lib
def cutE:List UInt8 → List UInt8 × List UInt8 × Bool
 | [] => ([],[],false)
 | c :: l => if c = 69 then ([],l,true) else (c :: (cutE l).1,(cutE l).2.1,(cutE l).2.2)
theorem cutE_at (a b:List UInt8) (h:∀ c ∈ a,c ≠ 69):cutE (a ++ 69 :: b) = (a,b,true):=by
 induction a with
 | nil => simp [cutE]
 | cons c a ih =>
  rw [List.cons_append,cutE,if_neg (h c (by simp)),ih (fun d hd => h d (by simp [hd]))]
theorem cutE_none (a:List UInt8) (h:∀ c ∈ a,c ≠ 69):cutE a = (a,[],false):=by
 induction a with
 | nil => rfl
 | cons c a ih => rw [cutE,if_neg (h c (by simp)),ih (fun d hd => h d (by simp [hd]))]
theorem cutE_idx (l:List UInt8):(cutE l = (l,[],false) ∧ indexByte l 69 = -1) ∨
  ∃ a b,l = a ++ 69 :: b ∧ cutE l = (a,b,true) ∧ indexByte l 69 = (a.length:Nat):=by
 induction l with
 | nil => exact .inl ⟨rfl,rfl⟩
 | cons c l ih =>
  by_cases hc:c = 69
  ·subst hc
   exact .inr ⟨[],l,rfl,by simp [cutE],by simp [indexByte]⟩
  ·rcases ih with ⟨h1,h2⟩ | ⟨a,b,h1,h2,h3⟩
   ·exact .inl ⟨by rw [cutE,if_neg hc,h1],by rw [indexByte,h2];simp [hc]⟩
   ·refine .inr ⟨c :: a,b,by rw [h1];rfl,by rw [cutE,if_neg hc,h2],?_⟩
    rw [indexByte,h3];have:((a.length:Nat):Int) ≠ -1:=by omega
    simp [hc,this]
theorem str_ext {s t:ByteArray} (h:s.data.toList = t.data.toList):s = t:=by
 apply ByteArray.ext;exact Array.toList_inj.1 h
theorem slice_to (l:List UInt8) (n:Nat) (h:n ≤ l.length) (W:World):(Instr.slice 9 (.string ⟨l.toArray⟩) none (some (.int .i64 (n:Nat))) none).run Tryz.prog W = .ok (.string ⟨(l.take n).toArray⟩) W:=by
 have hu:Tryz.prog.underlying 9 = some .string:=by kernel_rfl
 rw [run_slice_string_h (ht:=hu) (h0:=by omega) (h2:=by simpa [ByteArray.size] using h)]
 congr 2;exact str_ext (by simp)
theorem slice_from (l:List UInt8) (n:Nat) (h:n ≤ l.length) (W:World):(Instr.slice 9 (.string ⟨l.toArray⟩) (some (.int .i64 (n:Nat))) none none).run Tryz.prog W = .ok (.string ⟨(l.drop n).toArray⟩) W:=by
 have hu:Tryz.prog.underlying 9 = some .string:=by kernel_rfl
 rw [run_slice_string_l (ht:=hu) (h0:=by omega) (h1:=by simpa [ByteArray.size] using h)]
 congr 2;exact str_ext (by simp [ByteArray.size];exact List.take_of_length_le (by simp))
theorem index_any (s:ByteArray) (w:World) :
  Calls Tryz.prog 154 #[.string s,.string ⟨#[69]⟩] w fun e w' => e = .returned (.int .i64 (indexByte s.data.toList 69)) ∧ w' = w:=by
 by_cases hs:([69]:List UInt8) = s.toList
 ·have hd:s = ⟨#[69]⟩:=str_ext (by rw [← ByteArray.toList_eq,← hs])
  subst hd;clear hs
  go_enter Tryz.func154,Tryz.ntmps154
  go_wp2;go_ret;exact ⟨rfl,rfl⟩
 ·have HC:=Hh (Tryz.stringslite_IndexByte s 69 w)
  have hb:(([69]:List UInt8) == s.toList) = false:=by simpa using hs
  clear hs
  go_enter Tryz.func154,Tryz.ntmps154
  go_wp2_with fail;refine (HC.out).mono ?_;rintro e w' ⟨rfl,rfl⟩;go_wp2;go_ret;exact ⟨rfl,rfl⟩
theorem icut_any (l:List UInt8) (hl:l.length ≤ 1000000) (w:World) :
  Calls Tryz.prog 196 #[.string ⟨l.toArray⟩,.string ⟨#[69]⟩] w fun e w' =>
   e = .returned (.tuple #[.string ⟨(cutE l).1.toArray⟩,.string ⟨(cutE l).2.1.toArray⟩,.bool (cutE l).2.2]) ∧ Grow w w':=by
 have HC:=Hh (index_any ⟨l.toArray⟩ w)
 rcases cutE_idx l with ⟨h1,h2⟩ | ⟨a,b,h1,h2,h3⟩
 ·rw [h1]
  rw [show (⟨l.toArray⟩:ByteArray).data.toList = l from rfl,h2] at HC;clear h1 h2
  go_enter Tryz.func196,Tryz.ntmps196
  go_wp2_with fail;refine (HC.out).mono ?_;rintro e w' ⟨rfl,rfl⟩;go_wp2;go_ret3;exact ⟨rfl,Grow.refl _⟩
 ·rw [h2]
  rw [show (⟨l.toArray⟩:ByteArray).data.toList = l from rfl,h3] at HC;have hsl1:∀ W,(Instr.slice 9 (.string ⟨l.toArray⟩) none (some (.int .i64 (a.length:Nat))) none).run Tryz.prog W = .ok (.string ⟨a.toArray⟩) W:=fun W => by
   have h:=slice_to l a.length (by rw [h1];simp) W
   rw [h1,List.take_left,← h1] at h;exact h
  have hsl2:∀ W,(Instr.slice 9 (.string ⟨l.toArray⟩) (some (.int .i64 ((a.length:Nat) + 1))) none none).run Tryz.prog W = .ok (.string ⟨b.toArray⟩) W:=fun W => by
   have h:=slice_from l (a.length + 1) (by rw [h1];simp) W
   have e:l.drop (a.length + 1) = b:=by rw [h1];simp
   rw [e] at h;exact h
  have ha:((a.length:Nat):Int) + 1 ≤ 9223372036854775807:=by
   have:l.length = a.length + (b.length + 1):=by rw [h1];simp
   omega
  have hwr:IntKind.i64.wrap (((a.length:Nat):Int) + 1) = (a.length:Nat) + 1:=by rw [IntKind.wrap_i64];omega
  clear h1 h2 h3
  go_enter Tryz.func196,Tryz.ntmps196
  go_wp2_with fail;refine (HC.out).mono ?_;rintro e w' ⟨rfl,rfl⟩;clear HC;go_wp2;refine wp_region_grow (n:=12) rfl (by kernel_rfl) ?_
  refine wpAnyG_take (i:=0) (v:=?v1) rfl (by kernel_rfl) (by kernel_rfl) (by kernel_rfl) (fun _ _ _ h => h) (by rfl) ?h1 ?r1
  case h1 => (intro wg hSw;go_simp <;> with_reducible rfl)
  simp only [Act.put,List.setIfInBounds_toArray,List.set_cons_zero,List.set_cons_succ];refine wpAnyG_take (i:=1) (v:=?v2) rfl (by kernel_rfl) (by kernel_rfl) (by kernel_rfl) (fun _ _ _ h => h) (by rfl) ?h2 ?r2
  case h2 => (intro wg hSw;go_simp <;> with_reducible rfl)
  simp only [Act.put,List.setIfInBounds_toArray,List.set_cons_zero,List.set_cons_succ];refine wpAnyG_take (i:=2) (v:=?v3) rfl (by kernel_rfl) (by kernel_rfl) (by kernel_rfl) (fun _ _ _ h => h) (by rfl) ?h3 ?r3
  case h3 => (intro wg hSw;go_simp <;> with_reducible rfl)
  simp only [Act.put,List.setIfInBounds_toArray,List.set_cons_zero,List.set_cons_succ];refine wpAnyG_take (i:=3) (v:=?v4) rfl (by kernel_rfl) (by kernel_rfl) (by kernel_rfl) (fun _ _ _ h => h) (by rfl) ?h4 ?r4
  case h4 => (intro wg hSw;go_simp <;> with_reducible rfl)
  simp only [Act.put,List.setIfInBounds_toArray,List.set_cons_zero,List.set_cons_succ];refine wpAnyG_take (i:=4) (v:=?v5) rfl (by kernel_rfl) (by kernel_rfl) (by kernel_rfl) (fun _ _ _ h => h) (by rfl) ?h5 ?r5
  case h5 => (intro wg hSw;go_simp <;> with_reducible rfl)
  simp only [Act.put,List.setIfInBounds_toArray,List.set_cons_zero,List.set_cons_succ];refine wpAnyG_take (i:=5) (v:=?v6) rfl (by kernel_rfl) (by kernel_rfl) (by kernel_rfl) (fun _ _ _ h => h) (by rfl) ?h6 ?r6
  case h6 => (intro wg hSw;go_simp <;> with_reducible rfl)
  simp only [Act.put,List.setIfInBounds_toArray,List.set_cons_zero,List.set_cons_succ];refine wpAnyG_take (i:=6) (v:=?v7) rfl (by kernel_rfl) (by kernel_rfl) (by kernel_rfl) (fun _ _ _ h => h) (by rfl) ?h7 ?r7
  case h7 => (intro wg hSw;go_simp <;> with_reducible rfl)
  simp only [Act.put,List.setIfInBounds_toArray,List.set_cons_zero,List.set_cons_succ];refine wpAnyG_take (i:=7) (v:=?v8) rfl (by kernel_rfl) (by kernel_rfl) (by kernel_rfl) (fun _ _ _ h => h) (by rfl) ?h8 ?r8
  case h8 => (intro wg hSw;go_simp <;> with_reducible rfl)
  simp only [Act.put,List.setIfInBounds_toArray,List.set_cons_zero,List.set_cons_succ];refine wpAnyG_take (i:=8) (v:=?v9) rfl (by kernel_rfl) (by kernel_rfl) (by kernel_rfl) (fun _ _ _ h => h) (by rfl) ?h9 ?r9
  case h9 => (intro wg hSw;go_simp <;> with_reducible rfl)
  simp only [Act.put,List.setIfInBounds_toArray,List.set_cons_zero,List.set_cons_succ];refine wpAnyG_take (i:=9) (v:=?v10) rfl (by kernel_rfl) (by kernel_rfl) (by kernel_rfl) (fun _ _ _ h => h) (by rfl) ?h10 ?r10
  case h10 => (intro wg hSw;go_simp <;> with_reducible rfl)
  simp only [Act.put,List.setIfInBounds_toArray,List.set_cons_zero,List.set_cons_succ];refine wpAnyG_take (i:=10) (v:=?v11) rfl (by kernel_rfl) (by kernel_rfl) (by kernel_rfl) (fun _ _ _ h => h) (by rfl) ?h11 ?r11
  case h11 => (intro wg hSw;go_simp <;> with_reducible rfl)
  simp only [Act.put,List.setIfInBounds_toArray,List.set_cons_zero,List.set_cons_succ];refine wpAnyG_take (i:=11) (v:=?v12) rfl (by kernel_rfl) (by kernel_rfl) (by kernel_rfl) (fun _ _ _ h => h) (by rfl) ?h12 ?r12
  case h12 => (intro wg hSw;go_simp <;> with_reducible rfl)
  simp only [Act.put,List.setIfInBounds_toArray,List.set_cons_zero,List.set_cons_succ];refine wpAnyG_done (by kernel_rfl) ?_
  go_wp2;go_ret3;exact ⟨rfl,(Grow.refl _).drew⟩
theorem cut_any (l:List UInt8) (hl:l.length ≤ 1000000) (w:World) :
  Calls Tryz.prog 179 #[.string ⟨l.toArray⟩,.string ⟨#[69]⟩] w fun e w' =>
   e = .returned (.tuple #[.string ⟨(cutE l).1.toArray⟩,.string ⟨(cutE l).2.1.toArray⟩,.bool (cutE l).2.2]) ∧ Grow w w':=by
 have HC:=Hh (icut_any l hl w);generalize cutE l = r at *
 go_enter Tryz.func179,Tryz.ntmps179
 go_wp2_with fail;refine (HC.out).mono ?_;rintro e w1 ⟨rfl,hg⟩;have HG:=Hh hg;clear hg HC;go_wp2;go_ret3;exact ⟨rfl,HG.out⟩
theorem index_at {l:List UInt8} {i:Nat} {c:UInt8} (h:l[i]? = some c) (W:World):(Instr.index 9 (.string ⟨l.toArray⟩) (.int .i64 (i:Nat))).run Tryz.prog W = .ok (.int .u8 (c.toNat:Nat)) W:=by
 obtain ⟨hi,hc⟩:=List.getElem?_eq_some_iff.1 h;have hu:Tryz.prog.underlying 9 = some .string:=by kernel_rfl
 rw [run_index_string (h:=hu),dif_pos ⟨by omega,by simpa [ByteArray.size] using hi⟩]
 subst hc;rfl
open Go.RowKit Go.Lib
structure Laid (w:World):Prop where
 pows:Pows w
 syn:∃ tp p,w.var? Tryz.prog "strconv.ErrSyntax" = some #[.iface tp p]
 rng:∃ tp p,w.var? Tryz.prog "strconv.ErrRange" = some #[.iface tp p]
theorem Laid.grow {w w':World} (h:Laid w) (hg:Grow w w'):Laid w' :=
 ⟨h.pows.grow hg,by obtain ⟨tp,p,hv⟩:=h.syn;exact ⟨tp,p,var_grow hv hg⟩,by obtain ⟨tp,p,hv⟩:=h.rng;exact ⟨tp,p,var_grow hv hg⟩⟩
def signed (l:List UInt8):List UInt8:=if hasPrefix l [194,175] then 45 :: l.drop 2 else l
def numOf (l:List UInt8):Int:=match atoiAll (signed l) with
 | .ok v => v
 | _ => 0
theorem numOf_nil:numOf [] = 0:=rfl
theorem atoi_in {l:List UInt8} {v:Int} (h:atoiAll l = .ok v):In v:=by
 unfold atoiAll at h;split at h
 ·cases h
 ·simp only at h
  split at h
  ·cases h
  ·cases h
  ·split at h
   ·cases h
   ·split at h
    ·cases h
    ·rename_i h1 h2
     injection h with h
     subst h;split
     ·rename_i h3
      simp only [h3,true_and] at h2;constructor <;> omega
     ·rename_i h3
      simp only [h3,not_false_eq_true,true_and] at h1;constructor <;> omega
theorem numOf_in (l:List UInt8):In (numOf l):=by
 unfold numOf;split
 ·rename_i h
  exact atoi_in h
 ·constructor <;> decide
theorem hasP_digits (u:Nat):hasPrefix (decDigits u) [194,175] = false:=by
 obtain ⟨c,r,h,h1,h2⟩:=dd_cons u;rw [h];unfold hasPrefix;have:((194:UInt8) == c) = false:=by
  rw [beq_eq_false_iff_ne];intro e;rw [← e] at h2;exact absurd h2 (by decide)
 show ((194:UInt8) == c && List.isPrefixOf [175] r) = false;rw [this];rfl
theorem numOf_num {n:Int} (hn:In n):numOf (num n) = n:=by
 have h1:=hn.1;have h2:=hn.2
 unfold numOf signed
 by_cases h:n < 0
 ·rw [num_neg h]
  have hp:hasPrefix (194 :: 175 :: decDigits n.natAbs) [194,175] = true:=by simp [hasPrefix]
  rw [hp];simp only [if_true,List.drop_succ_cons,List.drop_zero];rw [atoi_neg _ (by omega)]
  simp only;omega
 ·rw [num_pos h,hasP_digits]
  simp only [Bool.false_eq_true,if_false];rw [atoi_dd _ (by omega)]
  simp only;omega
def parseD (l:List UInt8):Dc × Bool :=
 if text (numOf (cutE l).1) (numOf (cutE l).2.1) = l then ((numOf (cutE l).1,numOf (cutE l).2.1),true) else ((0,0),false)
theorem zero_right:rightD 0 0 = true:=by decide
theorem parseD_text {m e:Int} (hm:In m) (h:rightD m e = true):parseD (text m e) = ((m,e),true):=by
 have he:=right_exp hm h;have hE:In e:=⟨by omega,by omega⟩
 unfold parseD
 by_cases h0:e = 0
 ·subst h0
  rw [text_plain h,cutE_none _ (num_noE m)];simp only [numOf_num hm,numOf_nil];rw [text_plain h,if_pos rfl]
 ·rw [text_exp h h0,cutE_at _ _ (num_noE m)]
  simp only [numOf_num hm,numOf_num hE];rw [text_exp h h0,if_pos rfl]
theorem parseD_true {l:List UInt8} (h:(parseD l).2 = true):rightD (parseD l).1.1 (parseD l).1.2 = true ∧ text (parseD l).1.1 (parseD l).1.2 = l:=by
 unfold parseD at h ⊢;split
 ·rename_i ht
  refine ⟨?_,ht⟩
  cases hr:rightD (numOf (cutE l).1) (numOf (cutE l).2.1) with
  | true => rfl
  | false =>
   exfalso;rw [text_wrong hr] at ht;subst ht;exact absurd hr (by decide)
 ·rename_i ht
  rw [if_neg ht] at h
  cases h
theorem parseD_false {l:List UInt8} (h:(parseD l).2 = false):(parseD l).1 = (0,0):=by
 unfold parseD at h ⊢;split
 ·rename_i ht
  rw [if_pos ht] at h
  cases h
 ·rfl
theorem parseD_in (l:List UInt8):In (parseD l).1.1 ∧ In (parseD l).1.2:=by
 unfold parseD;split
 ·exact ⟨numOf_in _,numOf_in _⟩
 ·constructor <;> constructor <;> decide
theorem cutE_len (l:List UInt8):(cutE l).1.length ≤ l.length ∧ (cutE l).2.1.length ≤ l.length:=by
 rcases cutE_idx l with ⟨h,_⟩ | ⟨a,b,h1,h2,_⟩
 ·rw [h];simp
 ·rw [h2,h1];simp;omega
theorem below_bytes (w:World) (t:ByteArray):Grow w (Lib.bytesWorld w 5 t):=Lib.bytesWorld_below _ _ _
theorem atoi_any (l:List UInt8) (hl:l.length ≤ 1000001) (w:World) (hL:Laid w) :
  Calls Tryz.prog 197 #[.string ⟨l.toArray⟩] w fun e w' => ∃ v ev,e = .returned (.tuple #[.int .i64 v,ev]) ∧
   ((ev = .nilIface ∧ atoiAll l = .ok v) ∨ ((∃ N,ev = .iface 199 (.pointer (some ⟨N,0,none⟩))) ∧ ∀ u,atoiAll l ≠ .ok u)) ∧ Grow w w':=by
 have hs:(⟨l.toArray⟩:ByteArray).size ≤ 281474976710656:=by rw [Lib.size_eq];simp;omega
 rcases h:atoiAll l with v | _ | _
 ·refine (Tryz.strconv_Atoi_ok ⟨l.toArray⟩ (by omega) v h w).mono ?_
  rintro e w' ⟨rfl,hw⟩;refine ⟨v,.nilIface,rfl,.inl ⟨rfl,rfl⟩,?_⟩
  rcases hw with rfl | ⟨t,rfl⟩
  ·exact Grow.refl _
  ·exact below_bytes _ _
 ·obtain ⟨tp,p,hv⟩:=hL.syn
  refine (Any.strconv_Atoi_syntax_var Tryz.laysC172 ⟨l.toArray⟩ hs h tp p w hv).mono ?_;rintro e w' ⟨N,rfl,_,_,hb⟩;exact ⟨_,_,rfl,.inr ⟨⟨N,rfl⟩,fun u hu => by cases hu⟩,hb⟩
 ·obtain ⟨tp,p,hv⟩:=hL.rng
  refine (Any.strconv_Atoi_range_var Tryz.laysC172 ⟨l.toArray⟩ hs h tp p w hv).mono ?_;rintro e w' ⟨N,rfl,_,_,hb⟩;exact ⟨_,_,rfl,.inr ⟨⟨N,rfl⟩,fun u hu => by cases hu⟩,hb⟩
theorem signed_len (l:List UInt8):(signed l).length ≤ l.length + 1:=by
 unfold signed;split
 ·simp only [List.length_cons,List.length_drop];omega
 ·omega
theorem numOf_ok {l:List UInt8} {v:Int} (h:atoiAll (signed l) = .ok v):numOf l = v:=by unfold numOf;rw [h]
theorem numOf_not {l:List UInt8} (h:∀ u,atoiAll (signed l) ≠ .ok u):numOf l = 0:=by
 unfold numOf;split
 ·rename_i v hv
  exact absurd hv (h v)
 ·rfl
theorem number_any (l:List UInt8) (hl:l.length ≤ 1000000) (w:World) (hL:Laid w) :
  Calls Tryz.prog 180 #[.string ⟨l.toArray⟩] w fun e w' => e = .returned (.int .i64 (numOf l)) ∧ Grow w w':=by
 have HC:=Hh (Tryz.strings_CutPrefix ⟨l.toArray⟩ ⟨#[194,175]⟩ w);rw [show (⟨l.toArray⟩:ByteArray).data.toList = l from rfl,show (⟨#[194,175]⟩:ByteArray).data.toList = [194,175] from rfl] at HC;have HA:=Hh (atoi_any (signed l) (by have:=signed_len l;omega) w hL)
 have HO:=Hh (fun v h => numOf_ok (l:=l) (v:=v) h);have HN:=Hh (numOf_not (l:=l));have hsg:signed l = if hasPrefix l [194,175] then 45 :: l.drop 2 else l:=rfl
 have htr:trimPrefix l [194,175] = if hasPrefix l [194,175] then l.drop 2 else l:=rfl
 rw [htr] at HC;generalize hasPrefix l [194,175] = b at *;clear htr
 cases b
 ·simp only [Bool.false_eq_true,if_false] at hsg HC
  rw [hsg] at HA HO HN;clear hsg
  go_enter Tryz.func180,Tryz.ntmps180
  go_wp2_with fail;refine (HC.out).mono ?_;rintro e w' ⟨rfl,rfl⟩;go_wp2_with fail;refine (HA.out).mono ?_;rintro e w1 ⟨v,ev,rfl,hor,hg⟩;have HG:=Hh hg;clear hg HA HC
  rcases hor with ⟨rfl,hok⟩ | ⟨⟨N,rfl⟩,hno⟩
  ·have HV:=Hh (HO.out v hok)
   clear hok;go_wp2;go_ret;exact ⟨by rw [HV.out];rfl,HG.out⟩
  ·have HV:=Hh (HN.out hno)
   clear hno;go_wp2;go_ret;exact ⟨by rw [HV.out];rfl,HG.out⟩
 ·simp only [if_true] at hsg HC
  rw [hsg] at HA HO HN;obtain ⟨r,hr⟩:∃ r,l.drop 2 = r:=⟨_,rfl⟩;have hlen:¬ 9223372036854775807 < 1 + r.length:=by rw [← hr];simp;omega
  rw [hr] at HA HC HO HN;have hcat:(⟨#[45]⟩:ByteArray) ++ ⟨r.toArray⟩ = ⟨(45 :: r).toArray⟩:=str_app [45] r;clear hsg hr
  go_enter Tryz.func180,Tryz.ntmps180
  go_wp2_with fail;refine (HC.out).mono ?_;rintro e w' ⟨rfl,rfl⟩;go_wp2_with fail;refine (HA.out).mono ?_;rintro e w1 ⟨v,ev,rfl,hor,hg⟩;have HG:=Hh hg;clear hg HA HC
  rcases hor with ⟨rfl,hok⟩ | ⟨⟨N,rfl⟩,hno⟩
  ·have HV:=Hh (HO.out v hok)
   clear hok;go_wp2;go_ret;exact ⟨by rw [HV.out];rfl,HG.out⟩
  ·have HV:=Hh (HN.out hno)
   clear hno;go_wp2;go_ret;exact ⟨by rw [HV.out];rfl,HG.out⟩
theorem parse_any (l:List UInt8) (hl:l.length ≤ 1000000) (w:World) (hL:Laid w) :
  Calls Tryz.prog 157 #[.string ⟨l.toArray⟩] w fun x w' =>
   x = .returned (.tuple #[.agg #[.int .i64 (parseD l).1.1,.int .i64 (parseD l).1.2],.bool (parseD l).2]) ∧ Grow w w':=by
 have HC:=Hh (fun W => cut_any l hl W);have hll:=cutE_len l;have HP:Hid (parseD l = if text (numOf (cutE l).1) (numOf (cutE l).2.1) = l then ((numOf (cutE l).1,numOf (cutE l).2.1),true) else ((0,0),false)):=Hh rfl
 have HI1:=Hh (numOf_in (cutE l).1);have HI2:=Hh (numOf_in (cutE l).2.1);have HL:=Hh hL;clear hL;obtain ⟨⟨a,b,f⟩,hr⟩:∃ r,cutE l = r:=⟨_,rfl⟩;rw [hr] at HC hll HP HI1 HI2;simp only at HC hll HP HI1 HI2;have HN1:=Hh (fun W h => number_any a (by omega) W h)
 have HN2:=Hh (fun W h => number_any b (by omega) W h)
 obtain ⟨m,hm⟩:∃ m,numOf a = m:=⟨_,rfl⟩;obtain ⟨e,he⟩:∃ e,numOf b = e:=⟨_,rfl⟩;rw [hm,he] at HP;rw [hm] at HI1 HN1;rw [he] at HI2 HN2;have HT:=Hh (fun W h => text_any m e W HI1.out HI2.out h);obtain ⟨t,ht⟩:∃ t,text m e = t:=⟨_,rfl⟩;rw [ht] at HT HP;clear hr hm he ht hll HI1 HI2
 go_enter Tryz.func157,Tryz.ntmps157
 go_wp2_with fail;refine (HC.out _).mono ?_;rintro x w1 ⟨rfl,hg⟩;have HG:=Hh ((grow_new w _).trans hg);have HB:=Hh ((boxed_new w (.int .i64 0) (.int .i64 0) 41).grow hg);clear hg HC;go_wp2_with fail;refine (HN1.out _ (HL.out.grow HG.out)).mono ?_;rintro x w2 ⟨rfl,hg⟩;have HG2:=Hh (HG.out.trans hg);have HB2:=Hh (HB.out.grow hg);clear hg HG HB HN1;go_wp2_with fail;refine (HN2.out _ (HL.out.grow HG2.out)).mono ?_;rintro x w3 ⟨rfl,hg⟩;have HG3:=Hh (HG2.out.trans hg);have HB3:=Hh (HB2.out.grow hg);clear hg HG2 HB2 HN2;go_wp2_with fail;refine (HT.out _ ((HL.out.grow HG3.out).grow (grow_new _ _)).pows).mono ?_;rintro x w4 ⟨rfl,hg⟩;have HG4:=Hh (HG3.out.trans ((grow_new _ _).trans hg));have hb4:=HB3.out.grow ((grow_new _ _).trans hg);have hd4:=(boxed_new w3 (.int .i64 m) (.int .i64 e) 41).grow hg;have hc0:=hb4.fst;have hc1:=hb4.snd;have hf0:=hb4.froz 0;have hf1:=hb4.froz 1;have he0:=hd4.fst;have he1:=hd4.snd;have hne:¬ w3.heap.size = w.heap.size:=by have:=HB3.out.lt;omega
 have HB4:=Hh hb4;clear hg HG3 HB3 HT hb4 hd4
 by_cases hq:t = l
 ·subst hq
  rw [if_pos rfl] at HP;have HP':=Hh HP.out;clear HP;go_wp2;have hr:=(HB4.out.put0 (.int .i64 m)).put1 (.int .i64 e);exact bodyPost_ret (v:=.tuple #[.agg #[.int .i64 m,.int .i64 e],.bool true]) (by simp [results,Tryz.results157,go_sem,hr.fst,hr.snd]) rfl
   ⟨by rw [HP'.out],(HG4.out.put (Nat.le_refl _) 0 _).put (Nat.le_refl _) 1 _⟩
 ·rw [if_neg hq] at HP
  have HP':=Hh HP.out;have hqb:(t == l) = false:=by simpa using hq
  clear HP hq;go_wp2;have hr:=(HB4.out.put0 (.int .i64 0)).put1 (.int .i64 0);exact bodyPost_ret (v:=.tuple #[.agg #[.int .i64 0,.int .i64 0],.bool false]) (by simp [results,Tryz.results157,go_sem,hr.fst,hr.snd]) rfl
   ⟨by rw [HP'.out],(HG4.out.put (Nat.le_refl _) 0 _).put (Nat.le_refl _) 1 _⟩
open Go.Lib
def isPc (c:UInt8):Bool:=c == 69 || (decide (48 ≤ c.toNat) && decide (c.toNat ≤ 57))
def npc:List UInt8 → Nat
 | [] => 0
 | [c] => if isPc c then 1 else 0
 | c :: d :: l => if isPc c then npc (d :: l) + 1 else if c == 194 && d == 175 then npc l + 2 else 0
theorem npc_pc {c:UInt8} (h:isPc c = true) (l:List UInt8):npc (c :: l) = npc l + 1:=by
 cases l with
 | nil => simp [npc,h]
 | cons d l => rw [npc,if_pos h]
theorem npc_not {c:UInt8} (h:isPc c = false) (h2:c ≠ 194) (l:List UInt8):npc (c :: l) = 0:=by
 cases l with
 | nil => rw [npc,if_neg (by rw [h];decide)]
 | cons d l => rw [npc,if_neg (by rw [h];decide),if_neg (by simp [h2])]
theorem npc_sign (l:List UInt8):npc (194 :: 175 :: l) = npc l + 2:=by rw [npc,if_neg (by decide),if_pos (by decide)]
theorem npc_half {d:UInt8} (h:d ≠ 175) (l:List UInt8):npc (194 :: d :: l) = 0:=by rw [npc,if_neg (by decide),if_neg (by simp [h])]
theorem npc_nil:npc [] = 0:=rfl
theorem npc_le:∀ (l:List UInt8),npc l ≤ l.length
 | [] => Nat.le_refl _
 | [c] => by rw [npc];split <;> simp
 | c :: d :: l => by
  have h1:=npc_le (d :: l);have h2:=npc_le l;rw [npc];split
  ·simp only [List.length_cons] at *;omega
  ·split <;> simp only [List.length_cons] at * <;> omega
theorem npc_dd (u:Nat) (x:List UInt8):npc (decDigits u ++ x) = (decDigits u).length + npc x:=by
 have:∀ l:List UInt8,(∀ c ∈ l,48 ≤ c.toNat ∧ c.toNat ≤ 57) → npc (l ++ x) = l.length + npc x:=by
  intro l
  induction l with
  | nil => intro _;simp
  | cons c l ih =>
   intro h;have hc:=h c (by simp)
   rw [List.cons_append,npc_pc (by unfold isPc;simp [hc.1,hc.2]),ih (fun d hd => h d (by simp [hd])),List.length_cons]
   omega
 exact this _ (dd_bytes u)
theorem npc_num (n:Int) (x:List UInt8):npc (num n ++ x) = (num n).length + npc x:=by
 unfold num;split
 ·rw [List.cons_append,List.cons_append,npc_sign,npc_dd];simp only [List.length_cons];omega
 ·exact npc_dd _ _
theorem npc_text {m e:Int} (x:List UInt8):npc (text m e ++ x) = (text m e).length + npc x:=by
 unfold text;split
 ·split
  ·exact npc_num _ _
  ·rw [List.append_assoc,npc_num,List.cons_append,npc_pc (by decide),npc_num,List.length_append,List.length_cons];omega
 ·simp
def oneD (l:List UInt8):Dc × Bool:=if (parseD l).2 = true then parseD l else if num (numOf l) = l then norm (numOf l) 0 else ((0,0),false)
theorem oneD_of {l:List UInt8} (h:(parseD l).2 = true):oneD l = parseD l:=by rw [oneD,if_pos h]
theorem norm_int {n:Int} (hn:In n):norm n 0 = ((norm n 0).1,true):=by
 have:=norm_of_int hn;exact Prod.ext rfl this
theorem parse_num_in {n m e:Int} (hn:In n) (h:parseD (num n) = ((m,e),true)):norm n 0 = ((m,e),true):=by
 obtain ⟨h1,h2⟩:=parseD_true (l:=num n) (by rw [h])
 rw [h] at h1 h2;simp only at h1 h2
 by_cases he:e = 0
 ·subst he
  rw [text_plain h1] at h2;obtain rfl:=num_inj h2;have:=(rightD_iff hn).1 h1;exact norm_self this
 ·rw [text_exp h1 he] at h2
  exact absurd rfl (num_noE n 69 (by rw [← h2];simp))
theorem oneD_num {n:Int} (hn:In n):oneD (num n) = norm n 0:=by
 unfold oneD;split
 ·rename_i h
  obtain ⟨⟨⟨m,e⟩,b⟩,hp⟩:∃ r,parseD (num n) = r:=⟨_,rfl⟩;rw [hp] at h ⊢;simp only at h;subst h;exact (parse_num_in hn hp).symm
 ·rw [numOf_num hn,if_pos rfl]
theorem oneD_text {m e:Int} (hm:In m) (h:rightD m e = true):oneD (text m e) = ((m,e),true):=by
 have:=parseD_text hm h;rw [oneD_of (by rw [this]),this]
theorem oneD_in (l:List UInt8):In (oneD l).1.1 ∧ In (oneD l).1.2:=by
 unfold oneD;split
 ·exact parseD_in l
 ·split
  ·exact ⟨norm_in (numOf_in l),norm_exp_in (numOf_in l)⟩
  ·constructor <;> constructor <;> decide
theorem oneD_right {l:List UInt8} (h:(oneD l).2 = true):rightD (oneD l).1.1 (oneD l).1.2 = true:=by
 unfold oneD at h ⊢;split
 ·rename_i hp
  exact (parseD_true hp).1
 ·rename_i hp
  rw [if_neg hp] at h;split
  ·rename_i hn
   rw [if_pos hn] at h;exact rightD_of (norm_right (numOf_in l) h)
  ·rename_i hn
   rw [if_neg hn] at h
   cases h
theorem oneD_nil:oneD [] = ((0,0),false):=by
 have h1:(parseD []).2 = false:=by
  unfold parseD;rw [if_neg];have:numOf (cutE []).1 = 0 ∧ numOf (cutE []).2.1 = 0:=⟨numOf_nil,numOf_nil⟩;rw [this.1,this.2,text_plain zero_right];exact num_ne 0
 rw [oneD,if_neg (by rw [h1];decide),if_neg (num_ne _)]
theorem dd_mul (u j:Nat) (hu:u ≠ 0):decDigits (u * 10 ^ j) = decDigits u ++ List.replicate j 48:=by
 induction j with
 | zero => simp
 | succ j ih =>
  have hp:0 < 10 ^ j:=Nat.pow_pos (by decide)
  have h1:0 < u * 10 ^ j:=Nat.mul_pos (by omega) hp
  have e:u * 10 ^ (j + 1) = u * 10 ^ j * 10:=by rw [Nat.pow_succ,Nat.mul_assoc]
  rw [e,dd_big (by omega),show u * 10 ^ j * 10 / 10 = u * 10 ^ j by omega,ih,show u * 10 ^ j * 10 % 10 = 0 by omega,List.replicate_succ',List.append_assoc]
  rfl
theorem num_mul {q:Int} (j:Nat) (hq:q ≠ 0):num (q * 10 ^ j) = num q ++ List.replicate j 48:=by
 have hp:=pow_pos10 j;have ha:(q * 10 ^ j).natAbs = q.natAbs * 10 ^ j:=by rw [Int.natAbs_mul,Int.natAbs_pow];rfl
 by_cases h:q < 0
 ·have h2:q * 10 ^ j < 0:=Int.mul_neg_of_neg_of_pos h hp
  rw [num_neg h,num_neg h2,ha,dd_mul _ _ (by omega)]
  rfl
 ·have h2:¬ q * 10 ^ j < 0:=by
   have:=Int.mul_nonneg (show 0 ≤ q by omega) (show 0 ≤ (10:Int) ^ j by omega)
   omega
  rw [num_pos h,num_pos h2,ha,dd_mul _ _ (by omega)]
theorem dd_last {u:Nat} (hu:u % 10 ≠ 0):∃ p c,decDigits u = p ++ [c] ∧ c ≠ 48:=by
 by_cases h:u < 10
 ·refine ⟨[],UInt8.ofNat (48 + u),dd_small h,fun e => ?_⟩
  have:=congrArg UInt8.toNat e;rw [dig_nat h] at this;have h48:(48:UInt8).toNat = 48:=rfl;omega
 ·refine ⟨_,_,dd_big h,fun e => ?_⟩
  have:=congrArg UInt8.toNat e;rw [dig_nat (by omega)] at this
  have h48:(48:UInt8).toNat = 48:=rfl;omega
theorem num_last {q:Int} (hq:q % 10 ≠ 0):∃ p c,num q = p ++ [c] ∧ c ≠ 48:=by
 obtain ⟨p,c,h1,h2⟩:=dd_last (u:=q.natAbs) (by omega)
 unfold num;split
 ·exact ⟨194 :: 175 :: p,c,by rw [h1];rfl,h2⟩
 ·exact ⟨p,c,h1,h2⟩
theorem num_zero:num 0 = [48]:=by rw [num_pos (by decide)];exact dd_small (by decide)
theorem zeros_inj {a b:List UInt8} {i j:Nat} (ha:a.getLast? ≠ some 48) (hb:b.getLast? ≠ some 48) (h:a ++ List.replicate i 48 = b ++ List.replicate j 48):a = b ∧ i = j:=by
 induction i generalizing j with
 | zero =>
  cases j with
  | zero => simpa using h
  | succ j =>
   rw [List.replicate_succ',← List.append_assoc] at h;simp only [List.replicate_zero,List.append_nil] at h;rw [h] at ha;simp at ha
 | succ i ih =>
  cases j with
  | zero =>
   rw [List.replicate_succ',← List.append_assoc] at h;simp only [List.replicate_zero,List.append_nil] at h;rw [← h] at hb;simp at hb
  | succ j =>
   rw [List.replicate_succ',List.replicate_succ',← List.append_assoc,← List.append_assoc] at h;have:=ih (List.append_cancel_right h);exact ⟨this.1,by omega⟩
def roundD (t:List UInt8) (k:Nat):Dc × Bool :=
 if (parseD t).2 = true ∧ (parseD t).1.2 = 0 ∧ (wholeD (parseD t).1.1 k).2 = true then (((parseD t).1.1,(k:Int)),true) else ((0,0),false)
theorem whole_true {m e:Int} (h:(wholeD m e).2 = true):rightD m e = true ∧ 0 ≤ e ∧ In (m * 10 ^ e.toNat) ∧ (wholeD m e).1 = m * 10 ^ e.toNat:=by
 unfold wholeD at h ⊢;split
 ·rename_i hc
  exact ⟨hc.1,hc.2.1,hc.2.2,rfl⟩
 ·rename_i hc
  rw [if_neg hc] at h
  cases h
theorem round_of {l t:List UInt8} {k:Nat} (hl:l = t ++ List.replicate k 48) (ht:t.getLast? ≠ some 48 ∨ t = [48]) (hp:(parseD l).2 = false):oneD l = roundD t k:=by
 rw [oneD,if_neg (by rw [hp];decide)]
 have hz:l ≠ [48]:=by
  intro e;have:parseD [48] = ((0,0),true):=by
   have:=parseD_text (m:=0) (e:=0) ⟨by decide,by decide⟩ zero_right
   rw [text_plain zero_right,num_zero] at this;exact this
  rw [e,this] at hp
  cases hp
 unfold roundD;split
 ·rename_i hn
  have hv:=numOf_in l;generalize numOf l = v at hn hv
  by_cases h0:v = 0
  ·subst h0
   rw [num_zero] at hn;exact absurd hn.symm hz
  ·obtain ⟨q,j,hq,hq10,hj⟩:=parts_in hv h0
   have hqi:=q_in hv hq;have hqr:rightD q 0 = true:=rightD_of (.inr ⟨hq10,by decide,by decide⟩)
   obtain ⟨p,c,h1,h2⟩:=num_last hq10;have hnm:num q ++ List.replicate j 48 = t ++ List.replicate k 48:=by rw [← num_mul j (by omega),← hq,hn,hl]
   have hlast:(num q).getLast? ≠ some 48:=by rw [h1];simp [h2]
   have htn:t.getLast? ≠ some 48:=by
    rcases ht with h | rfl
    ·exact h
    ·exfalso
     have e:([48]:List UInt8) ++ List.replicate k 48 = [] ++ List.replicate (k + 1) 48:=by simp [List.replicate_succ]
     rw [e] at hnm;exact num_ne q (zeros_inj hlast (by simp) hnm).1
   obtain ⟨rfl,rfl⟩:=zeros_inj hlast htn hnm;have hpt:parseD (num q) = ((q,0),true):=by
    have:=parseD_text hqi hqr
    rwa [text_plain hqr] at this
   have hrj:rightD q (j:Int) = true:=rightD_of (.inr ⟨hq10,by omega,by omega⟩)
   have hw:wholeD q (j:Int) = (v,true):=whole_yes hrj rfl hq hv;rw [hpt];simp only;rw [if_pos (by simp [hw]),norm_of hq hq10 (by omega)]
   have:okExp (0 + (j:Nat)) = true:=by simp [okExp];omega
   rw [if_pos this,Int.zero_add]
 ·rename_i hn
  rw [if_neg];rintro ⟨h1,h2,h3⟩;obtain ⟨hr,htx⟩:=parseD_true h1;have hmi:=(parseD_in t).1;obtain ⟨⟨⟨m,e⟩,b⟩,hd⟩:∃ r,parseD t = r:=⟨_,rfl⟩;rw [hd] at h1 h2 h3 hr htx hmi;simp only at h1 h2 h3 hr htx hmi;subst h1 h2;rw [text_plain hr] at htx;obtain ⟨hrk,_,hin,_⟩:=whole_true h3;rw [Int.toNat_natCast] at hin;have hm0:m ≠ 0:=by
   intro e;subst e;have hk:k = 0:=by
    rcases (rightD_iff hmi).1 hrk with ⟨_,h⟩ | ⟨h,_⟩ <;> omega
   subst hk;rw [← htx,num_zero] at hl;exact hz (by rw [hl];simp)
  have:l = num (m * 10 ^ k):=by rw [num_mul k hm0,htx,hl]
  rw [this,numOf_num hin] at hn;exact hn rfl
def nextD:List UInt8 → Option (List UInt8)
 | 32 :: r => if npc r = 0 then none else some r
 | _ => none
theorem nextD_space (r:List UInt8):nextD (32 :: r) = if npc r = 0 then none else some r:=rfl
theorem nextD_other {r:List UInt8} (h:r.head? ≠ some 32):nextD r = none:=by
 unfold nextD;split
 ·exact absurd rfl h
 ·rfl
theorem nextD_some {r t:List UInt8} (h:nextD r = some t):r = 32 :: t ∧ npc t ≠ 0:=by
 unfold nextD at h;split at h
 ·split at h
  ·cases h
  ·cases h
   exact ⟨rfl,by assumption⟩
 ·cases h
theorem next_len {r t:List UInt8} (h:nextD r = some t):t.length < r.length:=by
 rw [(nextD_some h).1];simp
def readF:Nat → List UInt8 → Option (List Dc × List UInt8)
 | 0,_ => none
 | f + 1,l =>
  if (oneD (l.take (npc l))).2 = true then
   (match nextD (l.drop (npc l)) with
   | none => some ([(oneD (l.take (npc l))).1],l.drop (npc l))
   | some t => (readF f t).map fun p => ((oneD (l.take (npc l))).1 :: p.1,p.2))
  else none
def readO (l:List UInt8):Option (List Dc × List UInt8):=readF (l.length + 1) l
theorem readF_more:∀ (f:Nat) (l:List UInt8),l.length < f → ∀ g,l.length < g → readF f l = readF g l
 | 0,l,h,_,_ => absurd h (by omega)
 | f + 1,l,h,0,hg => absurd hg (by omega)
 | f + 1,l,h,g + 1,hg => by
  rw [readF,readF];split
  ·cases hn:nextD (l.drop (npc l)) with
   | none => rfl
   | some t =>
    have h1:=next_len hn;have h2:(l.drop (npc l)).length ≤ l.length:=by simp
    simp only;rw [readF_more f t (by omega) g (by omega)]
  ·rfl
theorem readO_wrong {l:List UInt8} (h:(oneD (l.take (npc l))).2 = false):readO l = none:=by
 unfold readO;rw [readF,if_neg (by rw [h];decide)]
theorem readO_last {l:List UInt8} (h:(oneD (l.take (npc l))).2 = true) (hn:nextD (l.drop (npc l)) = none):readO l = some ([(oneD (l.take (npc l))).1],l.drop (npc l)):=by
 unfold readO;rw [readF,if_pos h,hn]
theorem readO_on {l t:List UInt8} (h:(oneD (l.take (npc l))).2 = true) (hn:nextD (l.drop (npc l)) = some t):readO l = (readO t).map fun p => ((oneD (l.take (npc l))).1 :: p.1,p.2):=by
 have h1:=next_len hn;have h2:(l.drop (npc l)).length ≤ l.length:=by simp
 unfold readO;rw [readF,if_pos h,hn];simp only;rw [readF_more l.length t (by omega) (t.length + 1) (by omega)]
theorem readO_npc {l:List UInt8} {p:List Dc × List UInt8} (h:readO l = some p):npc l ≠ 0:=by
 intro h0;rw [readO_wrong (by rw [h0,List.take_zero,oneD_nil])] at h
 cases h
theorem readO_ind {P:List UInt8 → Prop} (h:∀ l,(∀ t,nextD (l.drop (npc l)) = some t → P t) → P l) (l:List UInt8):P l:=by
 have:∀ (n:Nat) (l:List UInt8),l.length < n → P l:=by
  intro n
  induction n with
  | zero => intro l hl;exact absurd hl (by omega)
  | succ n ih =>
   intro l hl;refine h l fun t ht => ih t ?_;have h1:=next_len ht;have h2:(l.drop (npc l)).length ≤ l.length:=by simp
   omega
 exact this _ l (Nat.lt_succ_self _)
theorem cases3 (l:List UInt8):((oneD (l.take (npc l))).2 = false ∧ readO l = none) ∨
  ((oneD (l.take (npc l))).2 = true ∧ nextD (l.drop (npc l)) = none ∧ readO l = some ([(oneD (l.take (npc l))).1],l.drop (npc l))) ∨
  ∃ t,(oneD (l.take (npc l))).2 = true ∧ nextD (l.drop (npc l)) = some t ∧ readO l = (readO t).map fun p => ((oneD (l.take (npc l))).1 :: p.1,p.2):=by
 cases h:(oneD (l.take (npc l))).2 with
 | false => exact .inl ⟨rfl,readO_wrong h⟩
 | true =>
  cases hn:nextD (l.drop (npc l)) with
  | none => exact .inr (.inl ⟨rfl,rfl,readO_last h hn⟩)
  | some t => exact .inr (.inr ⟨t,rfl,rfl,readO_on h hn⟩)
theorem readO_right (l:List UInt8):∀ ds r,readO l = some (ds,r) → (∀ d ∈ ds,rightD d.1 d.2 = true ∧ In d.1 ∧ In d.2) ∧ ds ≠ [] ∧ ∃ p,p ≠ [] ∧ l = p ++ r:=by
 refine readO_ind (P:=fun l => ∀ ds r,readO l = some (ds,r) → (∀ d ∈ ds,rightD d.1 d.2 = true ∧ In d.1 ∧ In d.2) ∧ ds ≠ [] ∧ ∃ p,p ≠ [] ∧ l = p ++ r) ?_ l;intro l ih ds r h;have h0:=readO_npc h;have htk:l.take (npc l) ≠ []:=by
  intro e;have:=congrArg List.length e;simp only [List.length_take,List.length_nil] at this;have:=npc_le l;omega
 rcases cases3 l with ⟨_,h2⟩ | ⟨h1,h2,h3⟩ | ⟨t,h1,h2,h3⟩
 ·rw [h2] at h;cases h
 ·rw [h3] at h
  cases h
  refine ⟨?_,by simp,l.take (npc l),htk,(List.take_append_drop _ _).symm⟩
  intro d hd;rw [List.mem_singleton] at hd;subst hd;exact ⟨oneD_right h1,oneD_in _⟩
 ·rw [h3] at h
  cases hr:readO t with
  | none => rw [hr] at h;cases h
  | some p =>
   obtain ⟨ds',r'⟩:=p;rw [hr] at h;simp only [Option.map_some,Option.some.injEq,Prod.mk.injEq] at h;obtain ⟨rfl,rfl⟩:=h;obtain ⟨g1,g2,p,g3,g4⟩:=ih t h2 ds' r' hr;refine ⟨?_,by simp,l.take (npc l) ++ 32 :: p,by simp,?_⟩
   ·intro d hd
    rcases List.mem_cons.1 hd with rfl | hd
    ·exact ⟨oneD_right h1,oneD_in _⟩
    ·exact g1 d hd
   ·have e1:=(nextD_some h2).1
    rw [List.append_assoc,List.cons_append,← g4,← e1,List.take_append_drop]
theorem readO_few (l:List UInt8):∀ ds r,readO l = some (ds,r) → ds.length ≤ l.length ∧ r.length ≤ l.length:=by
 refine readO_ind (P:=fun l => ∀ ds r,readO l = some (ds,r) → ds.length ≤ l.length ∧ r.length ≤ l.length) ?_ l;intro l ih ds r h;have h0:=readO_npc h;have hle:=npc_le l
 rcases cases3 l with ⟨_,h2⟩ | ⟨h1,h2,h3⟩ | ⟨t,h1,h2,h3⟩
 ·rw [h2] at h;cases h
 ·rw [h3] at h
  cases h
  simp only [List.length_cons,List.length_nil,List.length_drop];omega
 ·rw [h3] at h
  cases hr:readO t with
  | none => rw [hr] at h;cases h
  | some p =>
   obtain ⟨ds',r'⟩:=p;rw [hr] at h;simp only [Option.map_some,Option.some.injEq,Prod.mk.injEq] at h;obtain ⟨rfl,rfl⟩:=h;have:=ih t h2 ds' r' hr;have h4:=next_len h2;have h5:(l.drop (npc l)).length ≤ l.length:=by simp
   simp only [List.length_cons];omega
theorem readO_join {t:Dc → List UInt8} (more:List UInt8) (hm:npc more = 0) (hm2:nextD more = none)
  (ht:∀ d (x:List UInt8),npc (t d ++ x) = (t d).length + npc x) :
  ∀ (d:Dc) (ds:List Dc) (f:Dc → Dc),(∀ x ∈ d :: ds,oneD (t x) = (f x,true)) →
   readO (join ((d :: ds).map t) [32] ++ more) = some ((d :: ds).map f,more)
 | d,[],f,h => by
  have h1:=h d (by simp)
  have hn:npc (t d ++ more) = (t d).length:=by rw [ht,hm];rfl
  rw [List.map_cons,List.map_nil,Go.Lib.join_one,readO_last (by rw [hn,List.take_left,h1]) (by rw [hn,List.drop_left];exact hm2),hn,List.take_left,List.drop_left,h1]
  rfl
 | d,d2 :: ds,f,h => by
  have h1:=h d (by simp)
  have ih:=readO_join more hm hm2 ht d2 ds f (fun x hx => h x (by simp [List.mem_cons.1 hx]))
  have e:join ((d :: d2 :: ds).map t) [32] ++ more = t d ++ 32 :: (join ((d2 :: ds).map t) [32] ++ more):=by
   simp [join,List.intercalate]
  have hn:npc (t d ++ 32 :: (join ((d2 :: ds).map t) [32] ++ more)) = (t d).length:=by rw [ht,npc_not (by decide) (by decide)];rfl
  rw [e,readO_on (t:=join ((d2 :: ds).map t) [32] ++ more) (by rw [hn,List.take_left,h1]) (by rw [hn,List.drop_left,nextD_space,if_neg (readO_npc ih)]),ih,hn,List.take_left,h1]
  rfl
def intsT (xs:List Int):List UInt8:=join (xs.map num) [32]
def decsR (ds:List Dc):Bool:=ds.all fun d => rightD d.1 d.2
def decsT (ds:List Dc):List UInt8:=if decsR ds = true then join (ds.map fun d => text d.1 d.2) [32] else []
theorem join_app {a b:List (List UInt8)} (ha:a ≠ []) (hb:b ≠ []):join (a ++ b) [32] = join a [32] ++ 32 :: join b [32]:=by
 induction a with
 | nil => exact absurd rfl ha
 | cons x a ih =>
  cases a with
  | nil =>
   cases b with
   | nil => exact absurd rfl hb
   | cons y b => simp [join,List.intercalate]
  | cons y a =>
   have:=ih (by simp)
   have e:∀ r,join (x :: y :: r) [32] = x ++ 32 :: join (y :: r) [32]:=fun r => by simp [join,List.intercalate]
   rw [List.cons_append,List.cons_append,e,e,← List.cons_append,this,List.append_assoc,List.cons_append]
theorem join_snoc {a:List (List UInt8)} (ha:a ≠ []) (x:List UInt8):join (a ++ [x]) [32] = join a [32] ++ 32 :: x:=by
 rw [join_app ha (by simp),Go.Lib.join_one]
theorem decsR_app (a b:List Dc):decsR (a ++ b) = (decsR a && decsR b):=by unfold decsR;rw [List.all_append]
theorem decs_wrong {a:List Dc} (h:decsR a = false):decsT a = []:=by unfold decsT;rw [h];rfl
theorem join_len {xs:List (List UInt8)} {m:Nat} (h:∀ x ∈ xs,x.length ≤ m):(join xs [32]).length ≤ xs.length * (m + 1):=by
 have hl:∀ ys:List (List UInt8),(∀ x ∈ ys,x.length ≤ m) → lens ys ≤ ys.length * m:=by
  intro ys
  induction ys with
  | nil => intro _;simp [lens]
  | cons y ys ih =>
   intro hy;have h1:=hy y (by simp)
   have h2:=ih (fun x hx => hy x (by simp [hx]))
   have:lens (y :: ys) = y.length + lens ys:=by simp [lens]
   rw [this,List.length_cons,Nat.add_mul];omega
 cases xs with
 | nil => simp [join_nil]
 | cons x xs =>
  rw [join_length];have:=hl (x :: xs) h;simp only [List.length_cons,List.length_nil] at *;rw [Nat.mul_add];omega
theorem ints_len {xs:List Int} (h:∀ x ∈ xs,In x):(intsT xs).length ≤ xs.length * 22:=by
 unfold intsT
 have:=join_len (xs:=xs.map num) (m:=21) (by
  intro x hx;obtain ⟨n,hn,rfl⟩:=List.mem_map.1 hx
  exact num_len (h n hn))
 simpa using this
theorem decs_len {ds:List Dc} (h:∀ d ∈ ds,In d.1):(decsT ds).length ≤ ds.length * 30:=by
 unfold decsT;split
 ·have:=join_len (xs:=ds.map fun d => text d.1 d.2) (m:=29) (by
   intro x hx;obtain ⟨n,hn,rfl⟩:=List.mem_map.1 hx
   exact text_len (h n hn))
  simpa using this
 ·simp
theorem ints_back {xs:List Int} (h0:xs ≠ []) (h:∀ x ∈ xs,In x) (more:List UInt8) (hm:npc more = 0) (hm2:nextD more = none) :
  readO (intsT xs ++ more) = some (xs.map fun n => (norm n 0).1,more):=by
 cases xs with
 | nil => exact absurd rfl h0
 | cons x xs =>
  have:=readO_join (t:=fun d => num d.1) more hm hm2 (fun d y => npc_num d.1 y) (x,0) (xs.map fun n => (n,0)) (fun d => (norm d.1 0).1) (by
   intro d hd;have hi:In d.1:=by
    rcases List.mem_cons.1 hd with rfl | hd
    ·exact h x (by simp)
    ·obtain ⟨n,hn,rfl⟩:=List.mem_map.1 hd
     exact h n (by simp [hn])
   rw [oneD_num hi]
   exact norm_int hi)
  simpa [intsT,Function.comp_def] using this
theorem decs_back {ds:List Dc} (h0:ds ≠ []) (h:∀ d ∈ ds,In d.1) (hr:decsR ds = true) (more:List UInt8) (hm:npc more = 0) (hm2:nextD more = none) :
  readO (decsT ds ++ more) = some (ds,more):=by
 have hall:∀ d ∈ ds,rightD d.1 d.2 = true:=by
  intro d hd;unfold decsR at hr;exact List.all_eq_true.1 hr d hd
 cases ds with
 | nil => exact absurd rfl h0
 | cons x xs =>
  have:=readO_join (t:=fun d => text d.1 d.2) more hm hm2 (fun d y => npc_text y) x xs id (fun d hd => oneD_text (h d hd) (hall d hd));unfold decsT;rw [if_pos hr]
  simpa using this
open Go.RowKit Go.Lib
theorem str_size (l:List UInt8):(⟨l.toArray⟩:ByteArray).size = l.length:=by simp [ByteArray.size]
def pcD (l:List UInt8):Nat:=if hasPrefix l [194,175] = true then 2 else match l with
 | [] => 0
 | c :: _ => if isPc c then 1 else 0
theorem pcD_sign (l:List UInt8):pcD (194 :: 175 :: l) = 2:=by unfold pcD;rw [if_pos (by simp [hasPrefix])]
theorem hasP_not {c:UInt8} (h:c ≠ 194) (l:List UInt8):hasPrefix (c :: l) [194,175] = false:=by
 unfold hasPrefix;have:((194:UInt8) == c) = false:=by simpa using fun e => h e.symm
 show ((194:UInt8) == c && List.isPrefixOf [175] l) = false;rw [this];rfl
theorem isPc_ne {c:UInt8} (h:isPc c = true):c ≠ 194:=by rintro rfl;exact absurd h (by decide)
theorem pcD_pc {c:UInt8} (h:isPc c = true) (l:List UInt8):pcD (c :: l) = 1:=by
 unfold pcD;rw [hasP_not (isPc_ne h)];simp [h]
theorem hasP_cases (l:List UInt8):(∃ r,l = 194 :: 175 :: r) ∨ hasPrefix l [194,175] = false:=by
 match l with
 | [] => exact .inr rfl
 | [c] =>
  refine .inr ?_;unfold hasPrefix;show ((194:UInt8) == c && List.isPrefixOf [175] []) = false;simp
 | c :: d :: r =>
  by_cases h:c = 194 ∧ d = 175
  ·obtain ⟨rfl,rfl⟩:=h
   exact .inl ⟨r,rfl⟩
  ·refine .inr ?_
   unfold hasPrefix;show ((194:UInt8) == c && ((175:UInt8) == d && List.isPrefixOf [] r)) = false
   by_cases h1:(194:UInt8) = c
   ·have h2:((175:UInt8) == d) = false:=by simpa using fun e => h ⟨h1.symm,e.symm⟩
    rw [h2];simp
   ·have h2:((194:UInt8) == c) = false:=by simpa using h1
    rw [h2];rfl
theorem npc_step (l:List UInt8):(pcD l = 0 ∧ npc l = 0) ∨ (0 < pcD l ∧ pcD l ≤ l.length ∧ npc l = npc (l.drop (pcD l)) + pcD l):=by
 rcases hasP_cases l with ⟨r,rfl⟩ | h
 ·exact .inr ⟨by rw [pcD_sign];decide,by rw [pcD_sign];simp,by rw [pcD_sign,npc_sign];rfl⟩
 ·cases l with
  | nil => exact .inl ⟨rfl,rfl⟩
  | cons c l =>
   by_cases hc:isPc c = true
   ·exact .inr ⟨by rw [pcD_pc hc];decide,by rw [pcD_pc hc];simp,by rw [pcD_pc hc,npc_pc hc];rfl⟩
   ·have hf:isPc c = false:=by simpa using hc
    refine .inl ⟨by unfold pcD;rw [h];simp [hf],?_⟩
    by_cases h2:c = 194
    ·subst h2
     cases l with
     | nil => rfl
     | cons d l =>
      refine npc_half ?_ l;rintro rfl;simp [hasPrefix] at h
    ·exact npc_not hf h2 l
theorem pcD_zero (l:List UInt8):(pcD l = 0 ↔ npc l = 0):=by
 rcases npc_step l with ⟨h1,h2⟩ | ⟨h1,_,h2⟩
 ·simp [h1,h2]
 ·constructor <;> intro h <;> omega
theorem pcD_nil:pcD [] = 0:=rfl
theorem pcD_no {c:UInt8} {l:List UInt8} (h:hasPrefix (c :: l) [194,175] = false) (hc:isPc c = false):pcD (c :: l) = 0:=by unfold pcD;rw [h];simp [hc]
theorem piece_any (l:List UInt8) (w:World) :
  Calls Tryz.prog 133 #[.string ⟨l.toArray⟩] w fun e w' => e = .returned (.int .i64 (pcD l:Nat)) ∧ w' = w:=by
 have HP:=Hh (Tryz.strings_HasPrefix ⟨l.toArray⟩ ⟨#[194,175]⟩ w);rw [show (⟨l.toArray⟩:ByteArray).data.toList = l from rfl,show (⟨#[194,175]⟩:ByteArray).data.toList = [194,175] from rfl] at HP
 rcases hasP_cases l with ⟨r,hl⟩ | hp
 ·have hd:pcD l = 2:=by rw [hl];exact pcD_sign r
  have hp:hasPrefix l [194,175] = true:=by rw [hl];simp [hasPrefix]
  rw [hp] at HP;rw [hd];clear hd hp hl
  go_enter Tryz.func133,Tryz.ntmps133
  go_wp2_with fail;refine (HP.out).mono ?_;rintro e w' ⟨rfl,rfl⟩;go_wp2;go_ret;exact ⟨rfl,rfl⟩
 ·rw [hp] at HP
  cases l with
  | nil =>
   rw [pcD_nil];clear hp
   go_enter Tryz.func133,Tryz.ntmps133
   go_wp2_with fail;refine (HP.out).mono ?_;rintro e w' ⟨rfl,rfl⟩;go_wp2;go_ret;exact ⟨rfl,rfl⟩
  | cons c t =>
   have hix:∀ W,(Instr.index 9 (.string ⟨(c :: t).toArray⟩) (.int .i64 0)).run Tryz.prog W = .ok (.int .u8 (c.toNat:Nat)) W:=fun W => index_at (l:=c :: t) (i:=0) rfl W;have hc256:c.toNat < 256:=c.toNat_lt;have HY:Hid (isPc c = true → pcD (c :: t) = 1):=Hh (fun h => pcD_pc h t);have HN:Hid (isPc c = false → pcD (c :: t) = 0):=Hh (fun h => pcD_no hp h);have hcI:isPc c = (decide (c.toNat = 69) || (decide (48 ≤ c.toNat) && decide (c.toNat ≤ 57))):=by
    unfold isPc;congr 1;have:(c == 69) = decide (c = 69):=rfl;rw [this]
    by_cases h:c = 69
    ·subst h;rfl
    ·have:¬ c.toNat = 69:=fun e => h (UInt8.toNat_inj.1 e)
     rw [decide_eq_false h,decide_eq_false this]
   rw [hcI] at HY HN;obtain ⟨p,hpd⟩:∃ p,pcD (c :: t) = p:=⟨_,rfl⟩;rw [hpd] at HY HN;rw [hpd];have hne:((c :: t:List UInt8) == []) = false:=rfl;clear hp hpd hcI;generalize c.toNat = C at *;generalize c :: t = l at *
   go_enter Tryz.func133,Tryz.ntmps133
   go_wp2_with fail;refine (HP.out).mono ?_;rintro e w' ⟨rfl,rfl⟩;clear HP
   by_cases h69:C = 69
   ·subst h69
    obtain rfl:=HY.out rfl;go_wp2;go_ret;exact ⟨rfl,rfl⟩
   ·have h69b:(((C:Nat):Int) == 69) = false:=by rw [beq_eq_false_iff_ne];omega
    by_cases h48:48 ≤ C
    ·have h48i:(48:Int) ≤ ((C:Nat):Int):=by omega
     by_cases h57:C ≤ 57
     ·have h57i:((C:Nat):Int) ≤ 57:=by omega
      obtain rfl:=HY.out (by simp [h48,h57])
      go_wp2;go_ret;exact ⟨rfl,rfl⟩
     ·have h57i:¬ ((C:Nat):Int) ≤ 57:=by omega
      obtain rfl:=HN.out (by simp [h69,h57])
      go_wp2;go_ret;exact ⟨rfl,rfl⟩
    ·have h48i:¬ (48:Int) ≤ ((C:Nat):Int):=by omega
     obtain rfl:=HN.out (by simp [h69,h48])
     go_wp2;go_ret;exact ⟨rfl,rfl⟩
theorem pieces_any (l:List UInt8) (hl:l.length ≤ 1000000) (w:World) :
  Calls Tryz.prog 131 #[.string ⟨l.toArray⟩] w fun e w' => e = .returned (.int .i64 (npc l:Nat)) ∧ w' = w:=by
 have hsz:=str_size l;obtain ⟨w0,hw0⟩:∃ w0,w0 = w:=⟨_,rfl⟩
 go_enter Tryz.func131,Tryz.ntmps131
 go_wp2
 go_loopg [3] l.length (fun g s3 wr => ∃ k:Nat,k ≤ l.length ∧ g = l.length - k ∧ s3 = .int .i64 k ∧ Hid (npc l = npc (l.drop k) + k) ∧ w = wr)
 case atStart => exact ⟨0,Nat.zero_le _,rfl,rfl,Hh rfl,rfl⟩
 case round =>
  obtain ⟨k,hk,rfl,rfl,HN,rfl⟩:=hrel
  by_cases hlt:k < l.length
  ·have hlti:((k:Nat):Int) < ((l.length:Nat):Int):=by omega
   have hsf:=slice_from l k hk;have HC:=Hh (fun W => piece_any (l.drop k) W);have hst:=npc_step (l.drop k);have hdl:(l.drop k).length = l.length - k:=by simp
   have hdd:(l.drop k).drop (pcD (l.drop k)) = l.drop (k + pcD (l.drop k)):=by rw [List.drop_drop]
   rw [hdd,hdl] at hst;clear hdd hdl;generalize pcD (l.drop k) = p at hst HC;generalize l.drop k = r at HC hsf HN hst;go_wp2_with fail;refine (HC.out _).mono ?_;rintro e w' ⟨rfl,rfl⟩;clear HC hsf
   rcases hst with ⟨rfl,h0⟩ | ⟨hp,hple,hnp⟩
   ·have HV:Hid (npc l = k):=Hh (by rw [HN.out,h0];omega)
    clear h0 HN;go_wp2;go_ret;exact ⟨by rw [HV.out];rfl,rfl⟩
   ·have hpb:(((p:Nat):Int) == 0) = false:=by rw [beq_eq_false_iff_ne];omega
    have HV:Hid (npc l = npc (l.drop (k + p)) + (k + p)):=Hh (by rw [HN.out,hnp];omega)
    clear hnp HN;go_wp2;go_roundg (l.length - (k + p))
    case rel => exact ⟨k + p,by omega,rfl,by go_num,HV,rfl⟩
    case measure => omega
  ·obtain rfl:l.length = k:=by omega
   have HV:Hid (npc l = l.length):=Hh (by rw [HN.out,List.drop_length];simp [npc])
   clear HN;go_wp2;go_ret;exact ⟨by rw [HV.out];rfl,rfl⟩
open Go.RowKit Go.Lib
theorem repeat_zeros (j:Nat):repeatL [48] j = List.replicate j 48:=by
 have:=repeatL_replicate 48 1 j
 simpa using this
theorem textOf_math {n:Int} (hn:In n):∃ q,∃ j:Nat,norm n 0 = ((q,(j:Int)),true) ∧ In q ∧ j ≤ 18 ∧ text q 0 = num q ∧ num n = num q ++ repeatL [48] j:=by
 by_cases h0:n = 0
 ·subst h0
  exact ⟨0,0,norm_zero 0,hn,by omega,text_plain zero_right,by simp [repeatL]⟩
 ·obtain ⟨q,j,hq,hq10,hj⟩:=parts_in hn h0
  have hqr:rightD q 0 = true:=rightD_of (.inr ⟨hq10,by decide,by decide⟩)
  have hok:okExp (0 + (j:Nat)) = true:=by simp [okExp];omega
  refine ⟨q,j,?_,q_in hn hq,hj,text_plain hqr,?_⟩
  ·rw [norm_of hq hq10 (by omega),if_pos hok,Int.zero_add]
  ·rw [repeat_zeros,hq,num_mul j (by omega)]
theorem in_zero:In 0:=⟨by decide,by decide⟩
theorem textOf_any (n:Int) (w:World) (hn:In n) (hp:Pows w) :
  Calls Tryz.prog 37 #[.int .i64 n] w fun e w' => e = .returned (.string ⟨(num n).toArray⟩) ∧ Grow w w':=by
 obtain ⟨q,j,h1,hq,hj,ht,hnum⟩:=textOf_math hn;have HO:=Hh (of_any n w hn);rw [h1] at HO;have HT:=Hh (fun W (h:Pows W) => text_any q 0 W hq in_zero h);rw [ht] at HT;have HR:=Hh (fun W => Tryz.strings_Repeat ⟨#[48]⟩ j W (by omega) (by rw [show (⟨#[48]⟩:ByteArray).size = 1 from rfl];omega))
 rw [show (⟨#[48]⟩:ByteArray).data.toList = [48] from rfl] at HR;have HP:=Hh hp;have hlq:=num_len hq;have hlz:(repeatL [48] j).length = j:=by rw [repeatL_length];simp
 have hs:¬ 9223372036854775807 < (num q).length + (repeatL [48] j).length:=by omega
 rw [hnum];clear h1 hq hj ht hnum hp hlq hlz hn;generalize num q = a at *;generalize repeatL [48] j = z at *
 go_enter Tryz.func37,Tryz.ntmps37
 go_wp2_with fail;refine (HO.out).mono ?_;rintro e w1 ⟨rfl,hg⟩;have HG:=Hh hg;have HB:=Hh (boxed_new w1 (.int .i64 q) (.int .i64 (j:Int)) 41);have HN:=Hh (grow_new w1 (.cells #[.int .i64 q,.int .i64 (j:Int)] 41));have HP1:=Hh ((HP.out.grow HG.out).grow HN.out);clear hg HO HP;go_wp2_with fail;refine wp_region_R Grow (n:=9) rfl (by kernel_rfl) ?_
 intro W0 hW0e hW0;have hG0:Grow (w1.alloc (.cells #[.int .i64 q,.int .i64 (j:Int)] 41)) W0:=hW0;have hd0:∀ wg,Grow W0 wg → wg.cell? ⟨w1.heap.size,0,none⟩ = some (.int .i64 q):=fun wg h => ((HB.out.grow hG0).grow h).fst;have hd1:∀ wg,Grow W0 wg → wg.cell? ⟨w1.heap.size,1,none⟩ = some (.int .i64 (j:Int)):=fun wg h => ((HB.out.grow hG0).grow h).snd;clear hW0e;refine wpR_take growOrd (i:=0) (v:=?vf1) rfl (by kernel_rfl) (by kernel_rfl) (by kernel_rfl) (fun _ _ _ h => h) (by rfl) ?hf1 ?rf1
 case hf1 => (intro wg hSw;go_simp <;> with_reducible rfl)
 simp only [Act.put,List.setIfInBounds_toArray,List.set_cons_zero,List.set_cons_succ];refine wpR_take growOrd (i:=1) (v:=?vf2) rfl (by kernel_rfl) (by kernel_rfl) (by kernel_rfl) (fun _ _ _ h => h) (by rfl) ?hf2 ?rf2
 case hf2 => (intro wg hSw;go_simp <;> with_reducible rfl)
 simp only [Act.put,List.setIfInBounds_toArray,List.set_cons_zero,List.set_cons_succ];refine wpR_take growOrd (i:=2) (v:=?vf3) rfl (by kernel_rfl) (by kernel_rfl) (by kernel_rfl) (fun _ _ _ h => h) (by rfl) ?hf3 ?rf3
 case hf3 => (intro wg hSw;go_simp <;> with_reducible rfl)
 simp only [Act.put,List.setIfInBounds_toArray,List.set_cons_zero,List.set_cons_succ];refine wpR_take growOrd (i:=4) (v:=?vf4) rfl (by kernel_rfl) (by kernel_rfl) (by kernel_rfl) (fun _ _ _ h => h) (by rfl) ?hf4 ?rf4
 case hf4 => (intro wg hSw;go_simp <;> with_reducible rfl)
 simp only [Act.put,List.setIfInBounds_toArray,List.set_cons_zero,List.set_cons_succ];refine wpR_take growOrd (i:=5) (v:=?vf5) rfl (by kernel_rfl) (by kernel_rfl) (by kernel_rfl) (fun _ _ _ h => h) (by rfl) ?hf5 ?rf5
 case hf5 => (intro wg hSw;go_simp <;> with_reducible rfl)
 simp only [Act.put,List.setIfInBounds_toArray,List.set_cons_zero,List.set_cons_succ];refine wpR_one (i:=3) (by kernel_rfl) ?_
 refine wpR_op (i:=3) rfl (by rfl) (fun K hK => ?_)
 go_simp;refine (HT.out W0 (HP1.out.grow (hG0.trans (Grow.refl W0)))).mono ?_;rintro x wM3 ⟨rfl,hM3⟩;refine hK.out _ _ hM3 ?_;clear hK K
 try simp only [Act.put,List.setIfInBounds_toArray,List.set_cons_zero,List.set_cons_succ]
 refine wpR_one (i:=6) (by kernel_rfl) ?_
 refine wpR_op (i:=6) rfl (by rfl) (fun K hK => ?_)
 go_simp;refine (HR.out wM3).mono ?_;rintro x wM6 ⟨rfl,hM6'⟩;have hM6:Grow wM3 wM6:=hM6';clear hM6';refine hK.out _ _ hM6 ?_;clear hK K
 try simp only [Act.put,List.setIfInBounds_toArray,List.set_cons_zero,List.set_cons_succ]
 refine wpR_take growOrd (i:=7) (v:=?vf6) rfl (by kernel_rfl) (by kernel_rfl) (by kernel_rfl) (fun _ _ _ h => h) (by rfl) ?hf6 ?rf6
 case hf6 => (intro wg hSw;go_simp <;> with_reducible rfl)
 simp only [Act.put,List.setIfInBounds_toArray,List.set_cons_zero,List.set_cons_succ];refine wpR_take growOrd (i:=8) (v:=?vf7) rfl (by kernel_rfl) (by kernel_rfl) (by kernel_rfl) (fun _ _ _ h => h) (by rfl) ?hf7 ?rf7
 case hf7 => (intro wg hSw;go_simp <;> with_reducible rfl)
 simp only [Act.put,List.setIfInBounds_toArray,List.set_cons_zero,List.set_cons_succ];refine wpR_done (by kernel_rfl) ?_
 go_wp2;go_ret;exact ⟨congrArg (fun s => Ending.returned (Value.string s)) (str_app a z),(HG.out.trans HN.out).trans (hG0.trans (Grow.trans (Grow.trans (Grow.refl W0) hM3) hM6))⟩
theorem trim_at (l:List UInt8):∃ k,l = trimRightB l 48 ++ List.replicate k 48 ∧ (trimRightB l 48).getLast? ≠ some 48 ∧ k = l.length - (trimRightB l 48).length ∧ (trimRightB l 48).length ≤ l.length:=by
 have key:∀ r:List UInt8,∃ k,r = List.replicate k 48 ++ r.dropWhile (· == 48) ∧ (r.dropWhile (· == 48)).head? ≠ some 48:=by
  intro r
  induction r with
  | nil => exact ⟨0,by simp,by simp⟩
  | cons c r ih =>
   by_cases h:c = 48
   ·subst h
    obtain ⟨k,h1,h2⟩:=ih;refine ⟨k + 1,?_,?_⟩
    ·rw [List.dropWhile_cons_of_pos (by decide),List.replicate_succ,List.cons_append,← h1]
    ·rw [List.dropWhile_cons_of_pos (by decide)];exact h2
   ·refine ⟨0,?_,?_⟩
    ·rw [List.dropWhile_cons_of_neg (by simpa using h)];simp
    ·rw [List.dropWhile_cons_of_neg (by simpa using h)];simpa using h
 obtain ⟨k,h1,h2⟩:=key l.reverse;have e:l = trimRightB l 48 ++ List.replicate k 48:=by
  unfold trimRightB;have:=congrArg List.reverse h1;rw [List.reverse_reverse,List.reverse_append,List.reverse_replicate] at this;exact this
 refine ⟨k,e,?_,?_,?_⟩
 ·unfold trimRightB
  rw [List.getLast?_reverse];exact h2
 ·have:=congrArg List.length e
  rw [List.length_append,List.length_replicate] at this;omega
 ·have:=congrArg List.length e
  rw [List.length_append,List.length_replicate] at this;omega
theorem roundD_not {t:List UInt8} {k:Nat} (h:(parseD t).2 = false ∨ (parseD t).1.2 ≠ 0):roundD t k = ((0,0),false):=by
 unfold roundD;rw [if_neg];rintro ⟨h1,h2,_⟩
 rcases h with h | h
 ·rw [h] at h1;cases h1
 ·exact h h2
theorem roundD_far {t:List UInt8} {k:Nat} {m:Int} (hp:parseD t = ((m,0),true)) (h:(wholeD m k).2 = false):roundD t k = ((0,0),false):=by
 unfold roundD;rw [hp,if_neg];rintro ⟨_,_,h3⟩;simp only at h3;rw [h] at h3
 cases h3
theorem roundD_yes {t:List UInt8} {k:Nat} {m:Int} (hp:parseD t = ((m,0),true)) (h:(wholeD m k).2 = true):roundD t k = ((m,(k:Int)),true):=by
 unfold roundD;rw [hp,if_pos ⟨rfl,rfl,h⟩]
theorem round_any (l:List UInt8) (hl:l.length ≤ 1000000) (w:World) (hL:Laid w) (t:List UInt8) (k:Nat) (ht:trimRightB l 48 = t) (hk:k = l.length - t.length) (htl:t.length ≤ l.length) :
  Calls Tryz.prog 158 #[.string ⟨l.toArray⟩] w fun x w' => x = .returned (.tuple #[.agg #[.int .i64 (roundD t k).1.1,.int .i64 (roundD t k).1.2],.bool (roundD t k).2]) ∧ Grow w w':=by
 have HTR:=Hh (fun W => Tryz.strings_TrimRight_one ⟨l.toArray⟩ 48 (by decide) W (by rw [str_size];omega))
 rw [show (⟨l.toArray⟩:ByteArray).data.toList = l from rfl,ht] at HTR;have HP:=Hh (fun W h => parse_any t (by omega) W h)
 have hin:=parseD_in t;have HN:=Hh (roundD_not (t:=t) (k:=k));have HF:=Hh (fun (m:Int) hp h => roundD_far (t:=t) (k:=k) (m:=m) hp h);have HY:=Hh (fun (m:Int) hp h => roundD_yes (t:=t) (k:=k) (m:=m) hp h);obtain ⟨⟨⟨m,e⟩,b⟩,hd⟩:∃ r,parseD t = r:=⟨_,rfl⟩;rw [hd] at HP hin HN HF HY;simp only at HP hin HN;have HL:=Hh hL;have hs1:=str_size l;have hs2:=str_size t;have hsub:IntKind.i64.wrap (((l.length:Nat):Int) - ((t.length:Nat):Int)) = (k:Nat):=by rw [IntKind.wrap_i64];omega
 have hki:In (k:Int):=⟨by omega,by omega⟩
 have HW:=Hh (fun W => dwhole_any m k W hin.1 hki);clear hL ht hk htl hd hin hki;generalize roundD t k = r at *
 go_enter Tryz.func158,Tryz.ntmps158
 go_wp2_with fail;refine (HTR.out _).mono ?_;rintro x w' ⟨rfl,rfl⟩;clear HTR;go_wp2_with fail;refine (HP.out _ (HL.out.grow (grow_new _ _))).mono ?_;rintro x w1 ⟨rfl,hg⟩;have HG1:=Hh ((grow_new w _).trans hg);have HB0:=Hh ((boxed_new w (.int .i64 0) (.int .i64 0) 41).grow hg);clear hg HP;have hf0:∀ o j,(w1.alloc o).frozen? ⟨w.heap.size,j,none⟩ = false:=fun o j => (HB0.out.grow (grow_new _ o)).froz j;have hcc0:∀ o,(w1.alloc o).cell? ⟨w.heap.size,0,none⟩ = some (.int .i64 0):=fun o => (HB0.out.grow (grow_new _ o)).fst;have hcc1:∀ o,(w1.alloc o).cell? ⟨w.heap.size,1,none⟩ = some (.int .i64 0):=fun o => (HB0.out.grow (grow_new _ o)).snd;have hne:¬ w1.heap.size = w.heap.size:=by have:=HB0.out.lt;omega
 cases b
 ·have HR:=Hh (HN.out (.inl rfl))
  clear HN HF HY;go_wp2;have hr:=((HB0.out.grow (grow_new w1 (.cells #[.int .i64 m,.int .i64 e] 41))).put0 (.int .i64 0)).put1 (.int .i64 0);exact bodyPost_ret (v:=.tuple #[.agg #[.int .i64 0,.int .i64 0],.bool false]) (by simp [results,Tryz.results158,go_sem,hr.fst,hr.snd]) rfl
   ⟨by rw [HR.out],((HG1.out.trans (grow_new _ _)).put (Nat.le_refl _) 0 _).put (Nat.le_refl _) 1 _⟩
 ·by_cases h0:e = 0
  ·subst h0
   go_wp2_with fail;refine (HW.out _).mono ?_;rintro x w3 ⟨rfl,hg⟩;have HG3:=Hh ((HG1.out.trans (grow_new w1 (.cells #[.int .i64 m,.int .i64 (k:Int)] 41))).trans hg);have hb3:=(HB0.out.grow (grow_new w1 (.cells #[.int .i64 m,.int .i64 (k:Int)] 41))).grow hg;have hc3:=(boxed_new w1 (.int .i64 m) (.int .i64 (k:Int)) 41).grow hg;have g0:=hb3.froz 0;have g1:=hb3.froz 1;have g2:=hb3.fst;have g3:=hb3.snd;have d0:=hc3.fst;have d1:=hc3.snd;have HB3:=Hh hb3;clear hg hb3 hc3 HB0 HG1 hf0 hcc0 hcc1;obtain ⟨v,hv⟩:∃ v,(wholeD m k).1 = v:=⟨_,rfl⟩;obtain ⟨ok,hok⟩:∃ ok,(wholeD m k).2 = ok:=⟨_,rfl⟩;have HF1:=Hh (HF.out m rfl);have HY1:=Hh (HY.out m rfl);rw [hok] at HF1 HY1;rw [hv,hok]
   cases ok
   ·have HR:=Hh (HF1.out rfl)
    clear HN HF HY HF1 HY1 hv hok;go_wp2;have hr:=((HB3.out).put0 (.int .i64 0)).put1 (.int .i64 0);exact bodyPost_ret (v:=.tuple #[.agg #[.int .i64 0,.int .i64 0],.bool false]) (by simp [results,Tryz.results158,go_sem,hr.fst,hr.snd]) rfl
     ⟨by rw [HR.out],(HG3.out.put (Nat.le_refl _) 0 _).put (Nat.le_refl _) 1 _⟩
   ·have HR:=Hh (HY1.out rfl)
    clear HN HF HY HF1 HY1 hv hok;go_wp2;have hr:=((HB3.out).put0 (.int .i64 m)).put1 (.int .i64 (k:Int));exact bodyPost_ret (v:=.tuple #[.agg #[.int .i64 m,.int .i64 (k:Int)],.bool true]) (by simp [results,Tryz.results158,go_sem,hr.fst,hr.snd]) rfl
     ⟨by rw [HR.out],(HG3.out.put (Nat.le_refl _) 0 _).put (Nat.le_refl _) 1 _⟩
  ·have HR:=Hh (HN.out (.inr h0))
   have h0b:(e == 0) = false:=by simpa using h0
   clear HN HF HY;go_wp2;have hr:=((HB0.out.grow (grow_new w1 (.cells #[.int .i64 m,.int .i64 e] 41))).put0 (.int .i64 0)).put1 (.int .i64 0);exact bodyPost_ret (v:=.tuple #[.agg #[.int .i64 0,.int .i64 0],.bool false]) (by simp [results,Tryz.results158,go_sem,hr.fst,hr.snd]) rfl
    ⟨by rw [HR.out],((HG1.out.trans (grow_new _ _)).put (Nat.le_refl _) 0 _).put (Nat.le_refl _) 1 _⟩
theorem one_any (l:List UInt8) (hl:l.length ≤ 1000000) (w:World) (hL:Laid w) :
  Calls Tryz.prog 132 #[.string ⟨l.toArray⟩] w fun x w' => x = .returned (.tuple #[.agg #[.int .i64 (oneD l).1.1,.int .i64 (oneD l).1.2],.bool (oneD l).2]) ∧ Grow w w':=by
 obtain ⟨k,h1,h2,h3,h4⟩:=trim_at l;have HP:=Hh (fun W h => parse_any l hl W h);have HR:=Hh (fun W h => round_any l hl W h (trimRightB l 48) k rfl h3 h4);have HY:=Hh (fun h => oneD_of (l:=l) h);have HN:=Hh (fun h => round_of h1 (.inl h2) h);have HL:=Hh hL;clear h1 h2 h3 h4 hL;generalize trimRightB l 48 = t at *;obtain ⟨⟨⟨m,e⟩,b⟩,hd⟩:∃ r,parseD l = r:=⟨_,rfl⟩;rw [hd] at HP HY HN;simp only at HP HY HN;generalize oneD l = r at *;obtain ⟨⟨⟨m2,e2⟩,b2⟩,hd2⟩:∃ r,roundD t k = r:=⟨_,rfl⟩;rw [hd2] at HR HN;clear hd hd2
 go_enter Tryz.func132,Tryz.ntmps132
 go_wp2_with fail;refine (HP.out _ (HL.out.grow (grow_new _ _))).mono ?_;rintro x w1 ⟨rfl,hg⟩;have HG1:=Hh ((grow_new w _).trans hg);have HB0:=Hh ((boxed_new w (.int .i64 0) (.int .i64 0) 41).grow hg);clear hg HP;have hf0:∀ o j,(w1.alloc o).frozen? ⟨w.heap.size,j,none⟩ = false:=fun o j => (HB0.out.grow (grow_new _ o)).froz j;have hcc0:∀ o,(w1.alloc o).cell? ⟨w.heap.size,0,none⟩ = some (.int .i64 0):=fun o => (HB0.out.grow (grow_new _ o)).fst;have hcc1:∀ o,(w1.alloc o).cell? ⟨w.heap.size,1,none⟩ = some (.int .i64 0):=fun o => (HB0.out.grow (grow_new _ o)).snd;have hne:¬ w1.heap.size = w.heap.size:=by have:=HB0.out.lt;omega
 cases b
 ·have HV:=Hh (HN.out rfl)
  clear HN HY hf0 hcc0 hcc1;go_wp2_with fail;refine (HR.out _ (HL.out.grow (HG1.out.trans (grow_new _ _)))).mono ?_;rintro x w3 ⟨rfl,hg⟩;have HG3:=Hh ((HG1.out.trans (grow_new w1 (.cells #[.int .i64 m,.int .i64 e] 41))).trans hg);have hb3:=(HB0.out.grow (grow_new w1 (.cells #[.int .i64 m,.int .i64 e] 41))).grow hg;have g0:=hb3.froz 0;have g1:=hb3.froz 1;have g2:=hb3.fst;have g3:=hb3.snd;have HB3:=Hh hb3;clear hg hb3 HB0 HG1;go_wp2;have hr:=((HB3.out).put0 (.int .i64 m2)).put1 (.int .i64 e2);exact bodyPost_ret (v:=.tuple #[.agg #[.int .i64 m2,.int .i64 e2],.bool b2]) (by simp [results,Tryz.results132,go_sem,hr.fst,hr.snd]) rfl
   ⟨by rw [HV.out],(HG3.out.put (Nat.le_refl _) 0 _).put (Nat.le_refl _) 1 _⟩
 ·have HV:=Hh (HY.out rfl)
  clear HN HY HR;go_wp2;have hr:=((HB0.out.grow (grow_new w1 (.cells #[.int .i64 m,.int .i64 e] 41))).put0 (.int .i64 m)).put1 (.int .i64 e);exact bodyPost_ret (v:=.tuple #[.agg #[.int .i64 m,.int .i64 e],.bool true]) (by simp [results,Tryz.results132,go_sem,hr.fst,hr.snd]) rfl
   ⟨by rw [HV.out],((HG1.out.trans (grow_new _ _)).put (Nat.le_refl _) 0 _).put (Nat.le_refl _) 1 _⟩
end Go.Proofs.YteoogioanjkacaaGreatDoor.Num
