/-
  What the small case of the statements comes to: it answers true and turns nothing that was there.
-/
import Derived.Test.YtbpdjohbbhblcaaOpen
import Derived.Laws.BytesArg
import Derived.Lib.SlBytesConst
namespace Go.Proofs.Ytbpdjohbbhblcaa
open Go.RowKit
set_option linter.unusedSimpArgs false

theorem conv_any {k : TypeId} {w : World} {B : Nat} {A : Option Addr} {xs : List Int} (cap : Nat) (h : Nums .u8 w B A xs) (hk : k = 28) :
    (convert k 9 (.slice A xs.length cap)).run Try.prog w = .ok (.string (strOfNums xs)) w := by
  subst hk
  by_cases h0 : 0 < xs.length
  · obtain ⟨b, off, rfl, _, hc⟩ := h h0
    exact run_convert_bytes_arg w 28 5 Try.underlying28 Try.underlying5 b off xs.length cap xs rfl hc 9 Try.underlying9
  · have e : xs = [] := List.eq_nil_of_length_eq_zero (by omega)
    subst e
    rcases A with _ | a
    · exact run_convert_bytes_nil w 28 5 Try.underlying28 Try.underlying5 0 cap 9 Try.underlying9
    · rw [run_convert_bytes_string w 28 9 5 _ _ _ Try.underlying28 Try.underlying5 Try.underlying9]
      exact run_bytesToString w a 0 cap [] (by simpa using run_loadCells_list (P := Try.prog) w a [] (fun j v hj => by simp at hj))

def Fine (w : World) (e : Ending) (w' : World) : Prop := e = .returned (.bool true) ∧ Grow w w'

theorem lit_row (w : World) (k : IntKind) (t : TypeId) (xs : List Int) : (w.alloc (.cells (xs.map (Value.int k)).toArray t)).rowIs w.heap.size t xs.length fun i => .int k (xs.getD i 0) := by
  have h := World.rowIs_alloc w (xs.map (Value.int k)).toArray t (fun i => .int k (xs.getD i 0)) (fun i hi => by
    have hi' : i < xs.length := by simpa using hi
    simp [hi'])
  simpa using h
theorem lit_nums (w : World) (k : IntKind) (t : TypeId) (xs : List Int) : Nums k (w.alloc (.cells (xs.map (Value.int k)).toArray t)) (w.alloc (.cells (xs.map (Value.int k)).toArray t)).heap.size (some ⟨w.heap.size, 0, none⟩) xs :=
  Nums.of_row (lit_row w k t xs)

theorem mark_nums (w : World) (t : TypeId) (fr : Nat × Nat) (xs : List Int) : Nums .u8 (w.alloc (.cells (xs.map (Value.int .u8)).toArray t fr)) (w.alloc (.cells (xs.map (Value.int .u8)).toArray t fr)).heap.size (some ⟨w.heap.size, 0, none⟩) xs := fun _ => by
  refine ⟨w.heap.size, 0, rfl, by simp, fun i hi => ?_⟩
  rw [cell_of_row _ _ _ _ t fr (heap_alloc_new w _)]
  simp [hi]

/-- the polynomial's table, as sums go by it -/
def T0 : Nat → Nat := tabF 3988292384
def L9 : List Int := [49, 50, 51, 52, 53, 54, 55, 56, 57]
def L13 : List Int := [49, 50, 51, 52, 53, 54, 55, 56, 57, 38, 57, 244, 203]
theorem sum9 : moreN T0 0 L9 = 3421780262 := by decide +kernel
theorem sum0 (T : Nat → Nat) : moreN T 0 [] = 0 := by
  unfold moreN
  rw [raw_nil]
  decide
theorem seal9 : sealN T0 L9 = L13 := by unfold sealN; rw [sum9]; rfl
theorem byt9 : Byt L9 := by unfold Byt L9; decide
theorem byt13 : Byt L13 := by unfold Byt L13; decide

def Row13 (w : World) (e : Ending) (w' : World) : Prop := ∃ g, e = .returned (.slice (some ⟨g, 0, none⟩) 13 13) ∧ w'.rowIs g 5 13 (fun i => .int .u8 (L13.getD i 0)) ∧ Grow w w'
def Yes9 (w : World) (e : Ending) (w' : World) : Prop := ∃ g, e = .returned (.tuple #[.slice (some ⟨g, 0, none⟩) 9 9, .bool true]) ∧ w'.rowIs g 5 9 (fun i => .int .u8 (L9.getD i 0)) ∧ Grow w w'
def Yes0 (w : World) (e : Ending) (w' : World) : Prop := ∃ g, e = .returned (.tuple #[.slice (some ⟨g, 0, none⟩) 0 0, .bool true]) ∧ Grow w w'

theorem small_seal (cs : Array Value) (w : World) (hT : IsTab cs T0) (f1 f2 : Nat × Nat) (b0 b1 b2 : Nat) (h0 : b0 = w.heap.size) (h1 : b1 = w.heap.size + 1) (h2 : b2 = w.heap.size + 2) :
    Calls Try.prog 15 #[.agg cs, .slice (some ⟨b2, 0, none⟩) 3 3] (((w.alloc (.cells #[.int .u8 49, .int .u8 50, .int .u8 51, .int .u8 52] 5 f1)).alloc (.cells #[.int .u8 53, .int .u8 54, .int .u8 55, .int .u8 56, .int .u8 57] 5 f2)).alloc
      (.cells #[.slice (some ⟨b0, 0, none⟩) 4 4, .slice none 0 0, .slice (some ⟨b1, 0, none⟩) 5 5] 28)) (Row13 w) := by
  subst h0 h1 h2
  have n1 := mark_nums w 5 f1 [49, 50, 51, 52]
  have n2 := mark_nums (w.alloc (.cells ([49, 50, 51, 52].map (Value.int .u8)).toArray 5 f1)) 5 f2 [53, 54, 55, 56, 57]
  have hb : Grow (w.alloc (.cells ([49, 50, 51, 52].map (Value.int .u8)).toArray 5 f1)) ((w.alloc (.cells ([49, 50, 51, 52].map (Value.int .u8)).toArray 5 f1)).alloc (.cells ([53, 54, 55, 56, 57].map (Value.int .u8)).toArray 5 f2)) := (Below.refl _ _).alloc (Nat.le_refl _) _
  have n1' := (n1.below hb).more hb.size
  have hp := prts_lit _ [(some ⟨w.heap.size, 0, none⟩, 4, 4, [49, 50, 51, 52]), (none, 0, 0, []), (some ⟨w.heap.size + 1, 0, none⟩, 5, 5, [53, 54, 55, 56, 57])] (by
    intro x hx
    simp only [List.mem_cons, List.not_mem_nil, or_false] at hx
    rcases hx with rfl | rfl | rfl
    · exact ⟨rfl, by simp, n1'⟩
    · exact ⟨rfl, by simp, Nums.none_⟩
    · refine ⟨rfl, by simp, ?_⟩
      have e : (w.alloc (.cells ([49, 50, 51, 52].map (Value.int .u8)).toArray 5 f1)).heap.size = w.heap.size + 1 := by simp
      rw [e] at n2
      exact n2)
  have hf : Fits [[49, 50, 51, 52], [], [53, 54, 55, 56, 57]] := by
    refine ⟨by decide, fun i => ?_⟩
    match i with
    | 0 => exact ⟨by decide, by unfold Byt; decide⟩
    | 1 => exact ⟨by decide, byt_nil⟩
    | 2 => exact ⟨by decide, by unfold Byt; decide⟩
    | n + 3 => exact ⟨by simp, byt_nil⟩
  have h := seal_any _ 3 cs T0 [[49, 50, 51, 52], [], [53, 54, 55, 56, 57]] _ hT hf (by decide) hp
  have e : flat [[49, 50, 51, 52], [], [53, 54, 55, 56, 57]] = L9 := rfl
  rw [e, seal9] at h
  have e3 : ((w.alloc (.cells ([49, 50, 51, 52].map (Value.int .u8)).toArray 5 f1)).alloc (.cells ([53, 54, 55, 56, 57].map (Value.int .u8)).toArray 5 f2)).heap.size = w.heap.size + 2 := by simp
  rw [e3] at h
  refine h.mono ?_
  rintro e w' ⟨g, he, hrow, hg⟩
  exact ⟨g, he, hrow, grow_alloc (grow_alloc (grow_alloc hg))⟩

theorem small_open (cs : Array Value) (w : World) (hT : IsTab cs T0) (g : Nat) (h : w.rowIs g 5 13 fun i => .int .u8 (L13.getD i 0)) :
    Calls Try.prog 13 #[.agg cs, .slice (some ⟨g, 0, none⟩) 13 13] w (Yes9 w) :=
  open_yes (some ⟨g, 0, none⟩) 9 13 cs T0 L13 w hT rfl (by decide) (by decide) byt13 (Nums.of_row h) (by decide +kernel)

theorem small_zero (cs : Array Value) (w : World) (hT : IsTab cs T0) (b : Nat) (hb : b = w.heap.size) :
    Calls Try.prog 13 #[.agg cs, .slice (some ⟨b, 0, none⟩) 4 4] (w.alloc (.cells #[.int .u8 0, .int .u8 0, .int .u8 0, .int .u8 0] 5)) (Yes0 w) := by
  subst hb
  refine (open_yes (some ⟨w.heap.size, 0, none⟩) 0 4 cs T0 [0, 0, 0, 0] _ hT rfl (by decide) (by decide) (by unfold Byt; decide) (lit_nums w .u8 5 [0, 0, 0, 0]) (by decide +kernel)).mono ?_
  rintro e w' ⟨g, he, hrow, hg⟩
  exact ⟨g, he, grow_alloc hg⟩

theorem small_sum (cs : Array Value) (w : World) (hT : IsTab cs T0) (f1 : Nat × Nat) (b0 b1 : Nat) (h0 : b0 = w.heap.size) (h1 : b1 = w.heap.size + 1) :
    Calls Try.prog 16 #[.agg cs, .slice (some ⟨b1, 0, none⟩) 1 1] ((w.alloc (.cells #[.int .u8 49, .int .u8 50, .int .u8 51, .int .u8 52, .int .u8 53, .int .u8 54, .int .u8 55, .int .u8 56, .int .u8 57] 5 f1)).alloc (.cells #[.slice (some ⟨b0, 0, none⟩) 9 9] 28))
      fun e w' => e = .returned (.int .u32 3421780262) ∧ Grow w w' := by
  subst h0 h1
  have h := sum_one (some ⟨w.heap.size, 0, none⟩) 9 9 cs T0 L9 _ hT rfl (by simp) (by decide) byt9 (mark_nums w 5 f1 L9)
  have e1 : (w.alloc (.cells (L9.map (Value.int .u8)).toArray 5 f1)).heap.size = w.heap.size + 1 := by simp
  rw [e1, sum9] at h
  refine h.mono ?_
  rintro e w' ⟨he, hg⟩
  exact ⟨he, grow_alloc (grow_alloc hg)⟩

theorem small_none (cs : Array Value) (w : World) (hT : IsTab cs T0) : Calls Try.prog 16 #[.agg cs, .slice none 0 0] w fun e w' => e = .returned (.int .u32 0) ∧ Grow w w' := by
  have h := sum_any none 0 cs T0 [] w hT ⟨by simp, fun i => ⟨by simp, byt_nil⟩⟩ Prts.none_
  rw [flat_none, sum0] at h
  exact h

theorem tab0 : T0 0 = 0 := by decide +kernel
theorem tab1 : T0 1 = 1996959894 := by decide +kernel
theorem tab128 : T0 128 = 3988292384 := by decide +kernel

theorem tab_at {w : World} {g i : Nat} {cs : Array Value} {T : Nat → Nat} (hg : w.heap[g]? = some (.cells cs 24 (0, 0))) (hT : IsTab cs T) (hi : i < 256) : w.cell? ⟨g, i, none⟩ = some (.int .u32 (T i : Nat)) := by
  rw [cell_of_row w g i cs 24 (0, 0) hg]
  exact hT.2.1 i hi

set_option maxRecDepth 10000 in
set_option maxHeartbeats 1600000 in
theorem small_any (w : World) : Calls Try.prog 9 #[] w (Fine w) := by
  have hz := zero24
  go_enter Try.func9, Try.ntmps9
  go_wp2_with fail
  refine (table_any 3988292384 w (by decide)).mono ?_
  rintro e w1 ⟨cs, rfl, hT, hb1⟩
  have hs := hT.1
  have HT := Lib.hid (show IsTab cs T0 from hT)
  have hg0 := heap_alloc_new w1 (.cells zs24 24)
  have hg1 := setRow_heap (w1.alloc (.cells zs24 24)) w1.heap.size zs24 cs 24 (0, 0) hg0
  have HB1 := Lib.hid (Grow.trans hb1 (Below.trans ((Below.refl _ _).alloc (Nat.le_refl _) _) (below_setRow (Below.refl w1.heap.size (w1.alloc (.cells zs24 24))) (Nat.le_refl _) cs)))
  have hs2 := Lib.hid (show ((w1.alloc (.cells zs24 24)).setRow w1.heap.size cs).heap.size = w1.heap.size + 1 by simp)
  have hs24 : (Try.prog.info? 24).map (·.size) = some cs.size := by rw [hs]; exact size24
  have hz24 : zs24.size = cs.size := by rw [hs]; exact zs_size
  have hcv : ∀ (W : World) (C : Array Value) (n c g : Nat), g = W.heap.size → (convert 28 28 (.slice (some ⟨g, 0, none⟩) n c)).run Try.prog (W.alloc (.cells C 5)) = .ok (.slice (some ⟨g, 0, none⟩) n c) (W.alloc (.cells C 5 (C.size, C.size + 1))) :=
    fun W C n c g hg => by subst hg; exact Lib.run_convert_bytes_const W 28 5 C n c Try.underlying28 Try.underlying5
  clear hT hb1
  go_wp2_with (first | refine wpList_store_row rfl 24 _ _ rfl w1.heap.size cs rfl rfl 24 zs24 hg0 hs24 hz24 (tab_one HT.out) ?_ | refine wpList_tab rfl _ rfl w1.heap.size rfl cs hg1 hs ?_)
  generalize (w1.alloc (.cells zs24 24)).setRow w1.heap.size cs = w2 at *
  have HG2 := Lib.hid hg1
  clear hg1 hg0 hz24 hs24 hz
  refine (small_seal cs w2 HT.out (4, 5) (5, 6) _ _ _ hs2.out.symm (by rw [hs2.out]) (by rw [hs2.out])).mono ?_
  rintro e w3 ⟨g, rfl, hrow, hb3⟩
  have hlt2 : w1.heap.size < w2.heap.size := by have := hs2.out; omega
  have hg3 := (hb3.block w1.heap.size hlt2).trans HG2.out
  have HR3 := Lib.hid hrow
  clear hrow
  go_wp2_with (refine wpList_tab rfl _ rfl w1.heap.size rfl cs hg3 hs ?_)
  refine (small_open cs w3 HT.out g HR3.out).mono ?_
  rintro e w4 ⟨g9, rfl, hrow4, hb4⟩
  have HR9 := Lib.hid hrow4
  have HG3 := Lib.hid hg3
  have hlt3 : w1.heap.size < w3.heap.size := Nat.lt_of_lt_of_le hlt2 hb3.size
  have hg4 := (hb4.block w1.heap.size hlt3).trans HG3.out
  have hlt4 : w1.heap.size < w4.heap.size := Nat.lt_of_lt_of_le hlt3 hb4.size
  clear hrow4 hg3
  go_wp2
  have htb : ∀ wg, Grow w4.drew wg → wg.heap[w1.heap.size]? = some (.cells cs 24 (0, 0)) := fun wg hg => (hg.block w1.heap.size hlt4).trans hg4
  refine wp_region_grow (n := 12) rfl (by kernel_rfl) ?_
  refine wpAnyG_take (i := 0) (v := Value.agg cs) rfl (by kernel_rfl) (by kernel_rfl) (by kernel_rfl) (fun _ _ _ h => h) (by rfl) ?h1 ?r1
  case h1 => exact fun wg hSw => exec_tab rfl rfl (htb wg hSw) hs
  simp only [Act.put, List.setIfInBounds_toArray, List.set_cons_zero, List.set_cons_succ]
  refine wpAnyG_take (i := 1) (v := ?v2) rfl (by kernel_rfl) (by kernel_rfl) (by kernel_rfl) (fun _ _ _ h => h) (by rfl) ?h2 ?r2
  case h2 => (intro wg hSw; go_simp <;> with_reducible rfl)
  simp only [Act.put, List.setIfInBounds_toArray, List.set_cons_zero, List.set_cons_succ]
  refine wpAnyG_take (i := 2) (v := ?v3) rfl (by kernel_rfl) (by kernel_rfl) (by kernel_rfl) (fun _ _ _ h => h) (by rfl) ?h3 ?r3
  case h3 => (intro wg hSw; go_simp <;> with_reducible rfl)
  simp only [Act.put, List.setIfInBounds_toArray, List.set_cons_zero, List.set_cons_succ]
  refine wpAnyG_take (i := 3) (v := ?v4) rfl (by kernel_rfl) (by kernel_rfl) (by kernel_rfl) (fun _ _ _ h => h) (by rfl) ?h4 ?r4
  case h4 => (intro wg hSw; go_simp <;> with_reducible rfl)
  simp only [Act.put, List.setIfInBounds_toArray, List.set_cons_zero, List.set_cons_succ]
  refine wpAnyG_take (i := 4) (v := ?v5) rfl (by kernel_rfl) (by kernel_rfl) (by kernel_rfl) (fun _ _ _ h => h) (by rfl) ?h5 ?r5
  case h5 => (intro wg hSw; go_simp <;> with_reducible rfl)
  simp only [Act.put, List.setIfInBounds_toArray, List.set_cons_zero, List.set_cons_succ]
  refine wpAnyG_take (i := 5) (v := ?v6) rfl (by kernel_rfl) (by kernel_rfl) (by kernel_rfl) (fun _ _ _ h => h) (by rfl) ?h6 ?r6
  case h6 => (intro wg hSw; go_simp <;> with_reducible rfl)
  simp only [Act.put, List.setIfInBounds_toArray, List.set_cons_zero, List.set_cons_succ]
  refine wpAnyG_one (i := 6) rfl (by kernel_rfl) (by rfl) (fun K hK => ?_)
  go_simp
  refine (open_short (some ⟨g, 0, none⟩) 3 13 cs w4.drew (by decide)).mono ?_
  rintro e w5 ⟨rfl, hb5⟩
  refine hK.out _ _ (hb5) ?_
  clear hK K
  try simp only [Act.put, List.setIfInBounds_toArray, List.set_cons_zero, List.set_cons_succ]
  refine wpAnyG_take (i := 7) (v := ?v7) rfl (by kernel_rfl) (by kernel_rfl) (by kernel_rfl) (fun _ _ _ h => h) (by rfl) ?h7 ?r7
  case h7 => (intro wg hSw; go_simp <;> with_reducible rfl)
  simp only [Act.put, List.setIfInBounds_toArray, List.set_cons_zero, List.set_cons_succ]
  refine wpAnyG_take (i := 8) (v := ?v8) rfl (by kernel_rfl) (by kernel_rfl) (by kernel_rfl) (fun _ _ _ h => h) (by rfl) ?h8 ?r8
  case h8 => (intro wg hSw; go_simp <;> with_reducible rfl)
  simp only [Act.put, List.setIfInBounds_toArray, List.set_cons_zero, List.set_cons_succ]
  refine wpAnyG_take (i := 9) (v := ?v9) rfl (by kernel_rfl) (by kernel_rfl) (by kernel_rfl) (fun _ _ _ h => h) (by rfl) ?h9 ?r9
  case h9 => (intro wg hSw; go_simp <;> with_reducible rfl)
  simp only [Act.put, List.setIfInBounds_toArray, List.set_cons_zero, List.set_cons_succ]
  refine wpAnyG_take (i := 10) (v := ?v10) rfl (by kernel_rfl) (by kernel_rfl) (by kernel_rfl) (fun _ _ _ h => h) (by rfl) ?h10 ?r10
  case h10 => (intro wg hSw; go_simp <;> with_reducible rfl)
  simp only [Act.put, List.setIfInBounds_toArray, List.set_cons_zero, List.set_cons_succ]
  refine wpAnyG_take (i := 11) (v := ?v11) rfl (by kernel_rfl) (by kernel_rfl) (by kernel_rfl) (fun _ _ _ h => h) (by rfl) ?h11 ?r11
  case h11 => (intro wg hSw; go_simp <;> with_reducible rfl)
  simp only [Act.put, List.setIfInBounds_toArray, List.set_cons_zero, List.set_cons_succ]
  refine wpAnyG_done (by kernel_rfl) ?_
  clear htb
  have hb5' : Grow w4 w5 := Grow.of_drew hb5
  have hlt5 : w1.heap.size < w5.heap.size := Nat.lt_of_lt_of_le hlt4 hb5'.size
  have hg5 := (hb5'.block w1.heap.size hlt4).trans hg4
  have HG4 := Lib.hid hg4
  clear hg4 hb5
  go_wp2_with (refine wpList_tab rfl _ rfl w1.heap.size rfl cs hg5 hs ?_)
  refine (small_zero cs w5 HT.out _ rfl).mono ?_
  rintro e w6 ⟨g0, rfl, hb6⟩
  have hlt6 : w1.heap.size < w6.heap.size := Nat.lt_of_lt_of_le hlt5 hb6.size
  have hg6 := (hb6.block w1.heap.size hlt5).trans hg5
  have hc0 := tab_at hg6 HT.out (i := 0) (by decide)
  have hc1 := tab_at hg6 HT.out (i := 1) (by decide)
  have hc128 := tab_at hg6 HT.out (i := 128) (by decide)
  rw [tab0] at hc0
  rw [tab1] at hc1
  rw [tab128] at hc128
  clear hg5
  go_wp2_with (refine wpList_tab rfl _ rfl w1.heap.size rfl cs hg6 hs ?_)
  refine (small_sum cs w6 HT.out (9, 10) _ _ rfl rfl).mono ?_
  rintro e w7 ⟨rfl, hb7⟩
  have hlt7 : w1.heap.size < w7.heap.size := Nat.lt_of_lt_of_le hlt6 hb7.size
  have hg7 := (hb7.block w1.heap.size hlt6).trans hg6
  clear hg6 hc0 hc1 hc128
  go_wp2_with (refine wpList_tab rfl _ rfl w1.heap.size rfl cs hg7 hs ?_)
  refine (small_none cs w7 HT.out).mono ?_
  rintro e w8 ⟨rfl, hb8⟩
  have hb38 : Grow w3 w8 := (((hb4.trans hb5').trans hb6).trans hb7).trans hb8
  have hb48 : Grow w4 w8 := ((hb5'.trans hb6).trans hb7).trans hb8
  have hs13 : (convert 28 9 (.slice (some ⟨g, 0, none⟩) 13 13)).run Try.prog w8 = .ok (.string ⟨#[49, 50, 51, 52, 53, 54, 55, 56, 57, 38, 57, 244, 203]⟩) w8 := conv_any (xs := L13) 13 ((Nums.of_row HR3.out).below hb38) rfl
  have hs9 : (convert 28 9 (.slice (some ⟨g9, 0, none⟩) 9 9)).run Try.prog w8 = .ok (.string ⟨#[49, 50, 51, 52, 53, 54, 55, 56, 57]⟩) w8 := conv_any (xs := L9) 9 ((Nums.of_row HR9.out).below hb48) rfl
  clear hg7
  go_wp2
  go_ret
  exact ⟨rfl, (HB1.out.trans hb3).trans hb38⟩
end Go.Proofs.Ytbpdjohbbhblcaa
