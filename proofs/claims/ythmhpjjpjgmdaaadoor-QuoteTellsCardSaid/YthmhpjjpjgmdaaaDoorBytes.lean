/-
  Texts and bytes of one's own in memory; what utf8.AppendRune and strings.Clone come to. Nothing is claimed here by itself.
-/
import Derived.Test.YthmhpjjpjgmdaaaDoorShelf
import Derived.Test.YthmhpjjpjgmdaaaDoorRunes
import Derived.Test.YthmhpjjpjgmdaaaDoorQuoteMath
import Derived.Test.YthmhpjjpjgmdaaaDoorIntMem
import Derived.Lib.OthersKept
import Derived.Lib.AppendStr
import Derived.Laws.BytesArg
import Derived.Laws.OwnMore
import Derived.Shelf.Pu.Clone
namespace Go.Proofs.YthmhpjjpjgmdaaaDoor
open Go.RowKit Go.Lib
set_option linter.unusedSimpArgs false

theorem str_ext {s t : ByteArray} (h : s.data.toList = t.data.toList) : s = t := by
  apply ByteArray.ext
  exact Array.toList_inj.1 h
theorem str_size (l : List UInt8) : (⟨l.toArray⟩ : ByteArray).size = l.length := by simp [ByteArray.size]
theorem str_list (s : ByteArray) : s = ⟨s.data.toList.toArray⟩ := str_ext (by simp)
theorem str_app (a b : List UInt8) : (⟨a.toArray⟩ : ByteArray) ++ ⟨b.toArray⟩ = ⟨(a ++ b).toArray⟩ := by
  apply ByteArray.ext
  simp
theorem slice_from (l : List UInt8) (n : Nat) (h : n ≤ l.length) (W : World) : (Instr.slice 9 (.string ⟨l.toArray⟩) (some (.int .i64 (n : Nat))) none none).run Tryd.prog W = .ok (.string ⟨(l.drop n).toArray⟩) W := by
  have hu : Tryd.prog.underlying 9 = some .string := by kernel_rfl
  rw [run_slice_string_l (ht := hu) (h0 := by omega) (h1 := by simpa [ByteArray.size] using h)]
  congr 2
  exact str_ext (by simp [ByteArray.size]; exact List.take_of_length_le (by simp))
theorem slice_two (l : List UInt8) (n m : Nat) (h : n ≤ m) (hm : m ≤ l.length) (W : World) : (Instr.slice 9 (.string ⟨l.toArray⟩) (some (.int .i64 (n : Nat))) (some (.int .i64 (m : Nat))) none).run Tryd.prog W = .ok (.string ⟨((l.take m).drop n).toArray⟩) W := by
  have hu : Tryd.prog.underlying 9 = some .string := by kernel_rfl
  rw [run_slice_string (h := hu) (h0 := by omega) (h1 := by omega) (h2 := by rw [str_size]; omega)]
  congr 2
  exact str_ext (by simp [ByteArray.size]; rw [List.drop_take])
theorem index_str {l : List UInt8} {i : Nat} {x : UInt8} (h : l[i]? = some x) (W : World) : (Instr.index 9 (.string ⟨l.toArray⟩) (.int .i64 (i : Nat))).run Tryd.prog W = .ok (.int .u8 (x.toNat : Nat)) W := by
  have hu : Tryd.prog.underlying 9 = some .string := by kernel_rfl
  have hl := (List.getElem?_eq_some_iff.1 h).1
  have h' : (⟨l.toArray⟩ : ByteArray)[i]? = some x := by
    rw [getElem?_pos _ _ (by rw [str_size]; exact hl)]
    congr 1
    have := (List.getElem?_eq_some_iff.1 h).2
    simpa [ByteArray.getElem_eq_getElem_data] using this
  simp only [Instr.index, asIntOf, Sem.run_bind, Sem.run_pure, Result.andThen_ok, run_underlying hu]
  rw [if_pos (by omega), Int.toNat_natCast, h']
  rfl

theorem info5 : (Tryd.prog.info? 5).map (fun i => (i.zero, i.size, i.bytes)) = some (some (.int .u8 0), 1, 1) := by kernel_rfl
theorem cells_app (a b : List UInt8) : byteCells (a ++ b) = byteCells a ++ byteCells b := by simp [byteCells]
theorem cells_str (l : List UInt8) : strCells ⟨l.toArray⟩ = byteCells l := rfl
theorem cells_one (l : List UInt8) : ∀ u ∈ byteCells l, u.oneCell' = true := by
  intro u hu
  simp only [byteCells, List.mem_map] at hu
  obtain ⟨c, _, rfl⟩ := hu
  rfl

/-- bytes of one's own -/
def Own (B : Nat) (v : Value) (q : List UInt8) (w : World) : Prop := w.ownsRow B 5 1 v q.length (byteCells q)
theorem own_nil (B : Nat) (w : World) : Own B (.slice none 0 0) [] w := World.ownsRow_nil _ _ _ _
theorem Own.grow {B : Nat} {v : Value} {q : List UInt8} {w w' : World} (h : Own B v q w) (hg : Grow w w') : Own B v q w' := ownsRow_grow h hg

theorem wpList_append_text {ops : Array Oper} {rest : List Oper} {o : Oper} {a : Act} {w : World} {Q : Exit → Act → World → Prop} (hgd : o.guard = none) (s x : Operand)
    (ho : o.op = .call { callee := .builtin .append, args := #[s, x], argTypes := #[33, 9] }) (B : Nat) (v : Value) (q p : List UInt8)
    (hs : a.eval s = v) (hown : Own B v q w) (hx : a.eval x = .string ⟨p.toArray⟩) (hb : q.length + p.length ≤ 140737488355328) (hbase : B ≤ w.heap.size)
    (h : ∀ v' w', Own B v' (q ++ p) w' → Below B w w' → wpList Tryd.prog ops Q rest (a.put o.dst v') w') : wpList Tryd.prog ops Q (o :: rest) a w := by
  obtain ⟨i0, hi, hz0, hz1, hz2⟩ := info_of info5
  refine wpList_append_own_string w hgd s x 33 9 ho B 5 i0 Tryd.underlying33 Tryd.underlying9 hi hz0 hz1 hz2 v q.length (byteCells q) hs hown ⟨p.toArray⟩ hx (by rw [str_size]; unfold maxLen; omega) (by rw [str_size]; omega) hbase ?_
  intro v' w' hown' hgrow _
  refine h v' w' ?_ (Below.grown (Below.refl _ _) hgrow hbase (fun g hg => (hown.lt g hg).1))
  unfold Own
  rw [List.length_append, cells_app, ← cells_str p]
  rw [str_size] at hown'
  exact hown'
theorem conv_own {B : Nat} {v : Value} {q : List UInt8} {w : World} (h : Own B v q w) : (convert 33 9 v).run Tryd.prog w = .ok (.string ⟨q.toArray⟩) w := by
  rcases h.2 with ⟨rfl, hx⟩ | ⟨g, cap, cur, rfl, hbg, hgg, hnc, _, hsz, htake⟩
  · have hq : q = [] := by
      exact List.eq_nil_of_length_eq_zero hx
    subst hq
    exact run_convert_bytes_nil w 33 5 Tryd.underlying33 Tryd.underlying5 0 0 9 Tryd.underlying9
  · refine run_convert_bytes_back (P := Tryd.prog) w 33 9 5 ⟨g, 0, none⟩ cap q (by kernel_rfl) (by kernel_rfl) (by kernel_rfl) (fun j hj => ?_)
    rw [Addr.add_lit, Nat.zero_add, cell_of_row w g j cur 5 (0, 0) hgg]
    have h1 : (cur.toList.take (q.length * 1))[j]? = (byteCells q)[j]? := by rw [htake]
    rw [List.getElem?_take, if_pos (by omega), Array.getElem?_toList] at h1
    rw [h1]
    simp [byteCells, hj]
/-- the bytes of a literal, as a text -/
theorem conv_lit (w : World) (l : List UInt8) (vs : Array Value) (n : Nat) (hn : n = l.length) (h : vs = (byteCells l).toArray) :
    (convert 33 9 (.slice (some ⟨w.heap.size, 0, none⟩) n n)).run Tryd.prog (w.alloc (.cells vs 5)) = .ok (.string ⟨l.toArray⟩) (w.alloc (.cells vs 5)) := by
  subst hn h
  refine run_convert_bytes_back (P := Tryd.prog) _ 33 9 5 ⟨w.heap.size, 0, none⟩ l.length l (by kernel_rfl) (by kernel_rfl) (by kernel_rfl) (fun j hj => ?_)
  rw [Addr.add_lit, World.cell?_alloc_new]
  simp [byteCells, hj]
def Laid1 (B : Nat) (q : List UInt8) (w : World) (e : Ending) (w' : World) : Prop := ∃ v', e = .returned v' ∧ Own B v' q w' ∧ Below B w w'
theorem rune_cells {c : Nat} (h : isSign c = true) : Lib.runeCells (c : Int) = byteCells (bytesD c) := by
  have hs := isSign_iff.1 h
  unfold bytesD
  rw [if_pos h]
  by_cases h1 : c < 128
  · rw [if_pos h1, Lib.runeCells, encodeRuneZ_one (by omega) (by omega)]
    simp [byteCells, u8_nat (show c < 256 by omega)]
  · rw [if_neg h1]
    by_cases h2 : c < 2048
    · rw [if_pos h2, Lib.runeCells, encodeRuneZ_two (by omega) (by omega)]
      simp only [byteCells, List.map_cons, List.map_nil]
      rw [u8_nat (by omega), u8_nat (by omega)]
      simp
    · rw [if_neg h2]
      by_cases h3 : c < 65536
      · rw [if_pos h3, Lib.runeCells, encodeRuneZ_three (by omega)]
        simp only [byteCells, List.map_cons, List.map_nil]
        rw [u8_nat (by omega), u8_nat (by omega), u8_nat (by omega)]
        simp
      · rw [if_neg h3, Lib.runeCells, encodeRuneZ_four (by omega) (by omega)]
        simp only [byteCells, List.map_cons, List.map_nil]
        rw [u8_nat (by omega), u8_nat (by omega), u8_nat (by omega), u8_nat (by omega)]
        simp

theorem rune_any (B : Nat) (v : Value) (q : List UInt8) (c : Nat) (w : World) (hc : isSign c = true) (hq : q.length ≤ 10000000) (hown : Own B v q w) (hB : B ≤ w.heap.size) :
    Calls Tryd.prog 22 #[v, .int .i32 c] w (Laid1 B (q ++ bytesD c) w) := by
  have hs := (isSign_iff.1 hc).1
  refine (Tryd.utf8_AppendRune_plain B v q.length (byteCells q) c (by omega) (by omega) w hown (by omega) hB).mono ?_
  rintro e w' ⟨v', rfl, h1, o, h2⟩
  refine ⟨v', rfl, ?_, ?_⟩
  · unfold Own
    rw [List.length_append, cells_app]
    rw [rune_cells hc, byteCells_length] at h1
    exact h1
  · have hown' : Own B v q (w.alloc o) := hown.grow (grow_new _ _)
    exact Below.trans (Below.mono (grow_new w o) hB) (Below.grown (Below.refl _ _) h2 (by simp; omega) (fun g hg => (hown'.lt g hg).1))


/-- strings.Clone's own callee, as the library's contract has it -/
def cloneRen : Go.Shelf.Ren := ⟨fun | 25 => 27 | n => n, fun | 37 => 33 | 47 => 49 | n => n, fun n => n⟩
theorem cloneLays : LaysPu.n25 Tryd.prog cloneRen := {
  mixed := by kernel_rfl
  f25 := Tryd.func27.trans (congrArg some (by kernel_rfl))
  t0 := Tryd.underlying0
  a0 := Tryd.isAgg0
  z0 := Tryd.sizeOf0
  v0 := Tryd.zeroValue0
  i0 := by kernel_rfl
  t3 := Tryd.underlying3
  a3 := Tryd.isAgg3
  z3 := Tryd.sizeOf3
  v3 := Tryd.zeroValue3
  i3 := by kernel_rfl
  t4 := Tryd.underlying4
  a4 := Tryd.isAgg4
  z4 := Tryd.sizeOf4
  v4 := Tryd.zeroValue4
  i4 := by kernel_rfl
  t5 := Tryd.underlying5
  a5 := Tryd.isAgg5
  z5 := Tryd.sizeOf5
  v5 := Tryd.zeroValue5
  i5 := by kernel_rfl
  t9 := Tryd.underlying9
  a9 := Tryd.isAgg9
  z9 := Tryd.sizeOf9
  v9 := Tryd.zeroValue9
  i9 := by kernel_rfl
  t37 := Tryd.underlying33
  a37 := Tryd.isAgg33
  z37 := Tryd.sizeOf33
  v37 := Tryd.zeroValue33
  i37 := by kernel_rfl
  t47 := Tryd.underlying49
  a47 := Tryd.isAgg49
  z47 := Tryd.sizeOf49
  v47 := Tryd.zeroValue49
  i47 := by kernel_rfl }
theorem clone_any (l : List UInt8) (w : World) (hl : l.length ≤ 1000000) : Calls Tryd.prog 19 #[.string ⟨l.toArray⟩] w fun e w' => e = .returned (.string ⟨l.toArray⟩) ∧ Grow w w' := by
  have HC := Lib.hid (AnyPu.stringslite_Clone cloneLays ⟨l.toArray⟩ w (by rw [str_size]; omega))
  go_enter Tryd.func19, Tryd.ntmps19
  go_wp2_with fail
  refine (HC.out).mono ?_
  rintro e w1 ⟨rfl, hg⟩
  have HG := Lib.hid (show Grow w w1 from hg)
  clear hg
  go_wp2
  go_ret
  exact ⟨rfl, HG.out⟩

/-- what the walks ask of the library's tables -/
def Laid (w : World) : Prop := Lib.Utf8Tabs 0 1 w
theorem cell_lt {w : World} {p : Addr} {v : Value} (h : w.cell? p = some v) : p.block < w.heap.size := block_lt_of_cell h
theorem Laid.grow {w w' : World} (h : Laid w) (hg : Grow w w') : Laid w' :=
  ⟨fun c hc => (hg.cell (p := ⟨_, c, none⟩) (cell_lt (h.1 c hc))).trans (h.1 c hc),
   fun i hi => ⟨(hg.cell (p := ⟨_, 2 * i, none⟩) (cell_lt (h.2 i hi).1)).trans (h.2 i hi).1, (hg.cell (p := ⟨_, 2 * i + 1, none⟩) (cell_lt (h.2 i hi).2)).trans (h.2 i hi).2⟩⟩
end Go.Proofs.YthmhpjjpjgmdaaaDoor
