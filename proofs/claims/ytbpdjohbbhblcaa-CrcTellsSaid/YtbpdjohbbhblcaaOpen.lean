/-
  What crc.Open comes to, called with any table and any bytes.
-/
import Derived.Test.YtbpdjohbbhblcaaSeal
import Derived.Laws.CopyOwn
namespace Go.Proofs.Ytbpdjohbbhblcaa
open Go.RowKit
set_option linter.unusedSimpArgs false

theorem exec_tab {o : Oper} {ev : Operand → Value} {x : Operand} {g : Nat} {cs : Array Value} {w : World} (ho : o.op = .load 24 x) (hx : ev x = .pointer (some ⟨g, 0, none⟩))
    (hg : w.heap[g]? = some (.cells cs 24 (0, 0))) (hs : cs.size = 256) : (execOp ev o).run Try.prog w = .ok (.value (.agg cs)) w := by
  unfold execOp
  simp only [ho, hx, Instr.loadAt, Instr.sureAddr, Sem.run_bind, Sem.run_pure, Result.andThen_ok, run_loadVar_row w g 24 24 cs (0, 0) _ hg Try.underlying24 rfl (by rw [hs]; exact size24)]

theorem Nums.drop_ {k : IntKind} {w : World} {B : Nat} {A : Option Addr} {xs : List Int} (h : Nums k w B A xs) (d : Nat) : Nums k w B (Option.map (fun x => x.add d) A) (xs.drop d) := fun hn => by
  have hl : d < xs.length := by simp at hn; omega
  obtain ⟨b, off, rfl, hb, hc⟩ := h (by omega)
  refine ⟨b, off + d, ?_, hb, fun i hi => ?_⟩
  · simp only [Option.map_some]
    congr 1
    unfold Addr.add
    split <;> simp_all
  · have := hc (d + i) (by simp at hi; omega)
    rw [show off + d + i = off + (d + i) by omega, this]
    simp

theorem grow_alloc {w w' : World} {o : Obj} (h : Grow (w.alloc o) w') : Grow w w' :=
  ⟨h.os, h.tape, h.output, by have := h.size; simp at this; omega, fun k hk => (h.block k (by simp; omega)).trans (Below.heap_alloc w o k hk)⟩

/-- a list of parts that was just laid: where each lies, its length and capacity, what it holds -/
abbrev Laid := Option Addr × Nat × Nat × List Int
def Laid.cell (x : Laid) : Value := .slice x.1 x.2.1 x.2.2.1
theorem prts_lit (w : World) (xs : List Laid) (h : ∀ x ∈ xs, x.2.1 = x.2.2.2.length ∧ (x.1 = none → x.2.2.1 = 0) ∧ Nums .u8 w w.heap.size x.1 x.2.2.2) :
    Prts (w.alloc (.cells (xs.map Laid.cell).toArray 28)) (w.alloc (.cells (xs.map Laid.cell).toArray 28)).heap.size (some ⟨w.heap.size, 0, none⟩) (xs.map (·.2.2.2)) := fun _ => by
  refine ⟨w.heap.size, 0, rfl, by simp, fun i hi => ?_⟩
  have hi' : i < xs.length := by simpa using hi
  obtain ⟨h1, h2, h3⟩ := h xs[i] (by simp)
  refine ⟨xs[i].1, xs[i].2.2.1, ?_, h2, ?_⟩
  · rw [World.cell?_alloc_new]
    simp [hi', Laid.cell, ← h1]
  · have e : (xs.map (·.2.2.2)).getD i [] = xs[i].2.2.2 := by simp [hi']
    rw [e]
    exact (h3.below ((Below.refl _ _).alloc (Nat.le_refl _) _)).more (by simp)

theorem sumAt_four (b off cap : Nat) (q : List Int) (w : World) (B n : Nat) (hb : Byt q) (hl : q.length = 4) (hr : Nums .u8 w B (Option.map (fun x : Addr => x.add n) (some ⟨b, off, none⟩)) q) :
    Calls Try.prog 22 #[.slice (some ⟨b, off + n, none⟩) 4 cap] w fun e w' => e = .returned (.int .u32 (le q : Nat)) ∧ w' = w := by
  have e : Option.map (fun x : Addr => x.add n) (some ⟨b, off, none⟩) = some ⟨b, off + n, none⟩ := by rw [Option.map_some, Addr.add_lit]
  rw [e] at hr
  have h := sumAt_any (some ⟨b, off + n, none⟩) cap q w B hb (by omega) hr
  rw [hl] at h
  exact h

theorem flat_one (p : List Int) : flat [p] = p := by simp [flat]

theorem sum_one (A : Option Addr) (n cap : Nat) (cs : Array Value) (T : Nat → Nat) (p : List Int) (w : World) (hT : IsTab cs T) (hn : n = p.length) (hc : A = none → cap = 0) (hl : n ≤ 1000000000000000000) (hb : Byt p) (hr : Nums .u8 w w.heap.size A p) :
    Calls Try.prog 16 #[.agg cs, .slice (some ⟨w.heap.size, 0, none⟩) 1 1] (w.alloc (.cells #[.slice A n cap] 28)) fun e w' => e = .returned (.int .u32 (moreN T 0 p : Nat)) ∧ Grow (w.alloc (.cells #[.slice A n cap] 28)) w' := by
  have h := sum_any (some ⟨w.heap.size, 0, none⟩) 1 cs T [p] (w.alloc (.cells #[.slice A n cap] 28)) hT (fits_one (by omega) hb) (prts_lit w [(A, n, cap, p)] (by simp; exact ⟨hn, hc, hr⟩))
  rw [flat_one] at h
  exact h

def OpenNo (w : World) (e : Ending) (w' : World) : Prop := e = .returned (.tuple #[.slice none 0 0, .bool false]) ∧ Grow w w'
def OpenYes (p : List Int) (w : World) (e : Ending) (w' : World) : Prop :=
  ∃ g, e = .returned (.tuple #[.slice (some ⟨g, 0, none⟩) p.length p.length, .bool true]) ∧ w'.rowIs g 5 p.length (fun i => .int .u8 (p.getD i 0)) ∧ Grow w w'

set_option maxRecDepth 10000 in
set_option maxHeartbeats 400000 in
theorem open_short (A : Option Addr) (len cap : Nat) (cs : Array Value) (w : World) (hl : len < 4) : Calls Try.prog 13 #[.agg cs, .slice A len cap] w (OpenNo w) := by
  have hb1 : Grow w (w.alloc (.cells cs 24)) := (Below.refl _ _).alloc (Nat.le_refl _) _
  have hlt : decide ((len : Int) - 4 < 0) = true := by simp; omega
  go_enter Try.func13, Try.ntmps13
  go_wp2
  refine wp_region_grow (n := 15) rfl (by kernel_rfl) ?_
  refine wpAnyG_take (i := 0) (v := ?v1) rfl (by kernel_rfl) (by kernel_rfl) (by kernel_rfl) (fun _ _ _ h => h) (by rfl) ?h1 ?r1
  case h1 => (intro wg hSw; go_simp <;> with_reducible rfl)
  simp only [Act.put, List.setIfInBounds_toArray, List.set_cons_zero, List.set_cons_succ]
  refine wpAnyG_take (i := 1) (v := ?v2) rfl (by kernel_rfl) (by kernel_rfl) (by kernel_rfl) (fun _ _ _ h => h) (by rfl) ?h2 ?r2
  case h2 => (intro wg hSw; go_simp <;> with_reducible rfl)
  simp only [Act.put, List.setIfInBounds_toArray, List.set_cons_zero, List.set_cons_succ]
  refine wpAnyG_take (i := 2) (v := ?v3) rfl (by kernel_rfl) (by kernel_rfl) (by kernel_rfl) (fun _ _ _ h => h) (by rfl) ?h3 ?r3
  case h3 => (intro wg hSw; go_simp <;> with_reducible rfl)
  simp only [Act.put, List.setIfInBounds_toArray, List.set_cons_zero, List.set_cons_succ]
  refine wpAnyG_pass (i := 3) rfl (by kernel_rfl) (by kernel_rfl) (by kernel_rfl) (fun _ _ _ h => h) (by rfl) ?_
  simp only [Act.put, List.setIfInBounds_toArray, List.set_cons_zero, List.set_cons_succ]
  refine wpAnyG_pass (i := 4) rfl (by kernel_rfl) (by kernel_rfl) (by kernel_rfl) (fun _ _ _ h => h) (by rfl) ?_
  simp only [Act.put, List.setIfInBounds_toArray, List.set_cons_zero, List.set_cons_succ]
  refine wpAnyG_pass (i := 5) rfl (by kernel_rfl) (by kernel_rfl) (by kernel_rfl) (fun _ _ _ h => h) (by rfl) ?_
  simp only [Act.put, List.setIfInBounds_toArray, List.set_cons_zero, List.set_cons_succ]
  refine wpAnyG_pass (i := 6) rfl (by kernel_rfl) (by kernel_rfl) (by kernel_rfl) (fun _ _ _ h => h) (by rfl) ?_
  simp only [Act.put, List.setIfInBounds_toArray, List.set_cons_zero, List.set_cons_succ]
  refine wpAnyG_pass (i := 7) rfl (by kernel_rfl) (by kernel_rfl) (by kernel_rfl) (fun _ _ _ h => h) (by rfl) ?_
  simp only [Act.put, List.setIfInBounds_toArray, List.set_cons_zero, List.set_cons_succ]
  refine wpAnyG_pass (i := 8) rfl (by kernel_rfl) (by kernel_rfl) (by kernel_rfl) (fun _ _ _ h => h) (by rfl) ?_
  simp only [Act.put, List.setIfInBounds_toArray, List.set_cons_zero, List.set_cons_succ]
  refine wpAnyG_pass (i := 9) rfl (by kernel_rfl) (by kernel_rfl) (by kernel_rfl) (fun _ _ _ h => h) (by rfl) ?_
  simp only [Act.put, List.setIfInBounds_toArray, List.set_cons_zero, List.set_cons_succ]
  refine wpAnyG_pass (i := 10) rfl (by kernel_rfl) (by kernel_rfl) (by kernel_rfl) (fun _ _ _ h => h) (by rfl) ?_
  simp only [Act.put, List.setIfInBounds_toArray, List.set_cons_zero, List.set_cons_succ]
  refine wpAnyG_pass (i := 11) rfl (by kernel_rfl) (by kernel_rfl) (by kernel_rfl) (fun _ _ _ h => h) (by rfl) ?_
  simp only [Act.put, List.setIfInBounds_toArray, List.set_cons_zero, List.set_cons_succ]
  refine wpAnyG_pass (i := 12) rfl (by kernel_rfl) (by kernel_rfl) (by kernel_rfl) (fun _ _ _ h => h) (by rfl) ?_
  simp only [Act.put, List.setIfInBounds_toArray, List.set_cons_zero, List.set_cons_succ]
  refine wpAnyG_pass (i := 13) rfl (by kernel_rfl) (by kernel_rfl) (by kernel_rfl) (fun _ _ _ h => h) (by rfl) ?_
  simp only [Act.put, List.setIfInBounds_toArray, List.set_cons_zero, List.set_cons_succ]
  refine wpAnyG_take (i := 14) (v := ?v4) rfl (by kernel_rfl) (by kernel_rfl) (by kernel_rfl) (fun _ _ _ h => h) (by rfl) ?h4 ?r4
  case h4 => (intro wg hSw; go_simp <;> with_reducible rfl)
  simp only [Act.put, List.setIfInBounds_toArray, List.set_cons_zero, List.set_cons_succ]
  refine wpAnyG_done (by kernel_rfl) ?_
  go_wp2
  go_ret2
  exact ⟨rfl, hb1.drew⟩

set_option maxRecDepth 10000 in
set_option maxHeartbeats 800000 in
theorem open_no (A : Option Addr) (n cap : Nat) (cs : Array Value) (T : Nat → Nat) (bs : List Int) (w : World) (hT : IsTab cs T) (hl : bs.length = n + 4) (hm : n + 4 ≤ 200000000000000) (hcap : n + 4 ≤ cap) (hb : Byt bs) (hr : Nums .u8 w w.heap.size A bs)
    (hne : moreN T 0 (bs.take n) ≠ le (bs.drop n)) : Calls Try.prog 13 #[.agg cs, .slice A (n + 4) cap] w (OpenNo w) := by
  have hb1 : Grow w (w.alloc (.cells cs 24)) := (Below.refl _ _).alloc (Nat.le_refl _) _
  have hr1 := (hr.below hb1).more hb1.size
  have hg1 := heap_alloc_new w (.cells cs 24)
  obtain ⟨b, off, rfl, _, _⟩ := hr (by omega)
  have hlt : decide ((n : Int) < 0) = false := by simp
  have hcn : n ≤ cap := by omega
  have hcn2 : ¬ cap = n := by omega
  have hcn3 : (n : Int) ≤ (n : Int) + 4 := by omega
  have hnb : ((moreN T 0 (bs.take n) : Nat) : Int) != ((le (bs.drop n) : Nat) : Int) := by
    rw [bne_iff_ne]
    exact fun h => hne (by exact_mod_cast h)
  have HB1 := Lib.hid hb1
  have HN := Lib.hid (hr1.take n)
  have HD := Lib.hid (hr1.drop_ n)
  have hs1 := Lib.hid (show (w.alloc (.cells cs 24)).heap.size = w.heap.size + 1 by simp)
  have HT := Lib.hid hT
  have HB := Lib.hid hb
  have HL := Lib.hid hl
  clear hr1 hr hb1 hb hT hne hl
  go_enter Try.func13, Try.ntmps13
  go_wp2
  generalize w.alloc (.cells cs 24) = w1 at *
  have htb : ∀ wg, Grow w1.drew wg → wg.heap[w.heap.size]? = some (.cells cs 24 (0, 0)) := fun wg hg => (hg.block w.heap.size (by show _ < w1.heap.size; have := hs1.out; omega)).trans hg1
  have HSZ := HT.out.1
  refine wp_region_grow (n := 15) rfl (by kernel_rfl) ?_
  refine wpAnyG_take (i := 0) (v := ?v5) rfl (by kernel_rfl) (by kernel_rfl) (by kernel_rfl) (fun _ _ _ h => h) (by rfl) ?h5 ?r5
  case h5 => (intro wg hSw; go_simp <;> with_reducible rfl)
  simp only [Act.put, List.setIfInBounds_toArray, List.set_cons_zero, List.set_cons_succ]
  refine wpAnyG_take (i := 1) (v := ?v6) rfl (by kernel_rfl) (by kernel_rfl) (by kernel_rfl) (fun _ _ _ h => h) (by rfl) ?h6 ?r6
  case h6 => (intro wg hSw; go_simp <;> with_reducible rfl)
  simp only [Act.put, List.setIfInBounds_toArray, List.set_cons_zero, List.set_cons_succ]
  refine wpAnyG_take (i := 2) (v := ?v7) rfl (by kernel_rfl) (by kernel_rfl) (by kernel_rfl) (fun _ _ _ h => h) (by rfl) ?h7 ?r7
  case h7 => (intro wg hSw; go_simp <;> with_reducible rfl)
  simp only [Act.put, List.setIfInBounds_toArray, List.set_cons_zero, List.set_cons_succ]
  refine wpAnyG_take (i := 3) (v := Value.agg cs) rfl (by kernel_rfl) (by kernel_rfl) (by kernel_rfl) (fun _ _ _ h => h) (by rfl) ?h8 ?r8
  case h8 => exact fun wg hSw => exec_tab rfl rfl (htb wg hSw) HSZ
  simp only [Act.put, List.setIfInBounds_toArray, List.set_cons_zero, List.set_cons_succ]
  refine wpAnyG_take (i := 4) (v := ?v9) rfl (by kernel_rfl) (by kernel_rfl) (by kernel_rfl) (fun _ _ _ h => h) (by rfl) ?h9 ?r9
  case h9 => (intro wg hSw; go_simp <;> with_reducible rfl)
  simp only [Act.put, List.setIfInBounds_toArray, List.set_cons_zero, List.set_cons_succ]
  refine wpAnyG_take (i := 5) (v := ?v10) rfl (by kernel_rfl) (by kernel_rfl) (by kernel_rfl) (fun _ _ _ h => h) (by rfl) ?h10 ?r10
  case h10 => (intro wg hSw; go_simp <;> with_reducible rfl)
  simp only [Act.put, List.setIfInBounds_toArray, List.set_cons_zero, List.set_cons_succ]
  refine wpAnyG_take (i := 6) (v := ?v11) rfl (by kernel_rfl) (by kernel_rfl) (by kernel_rfl) (fun _ _ _ h => h) (by rfl) ?h11 ?r11
  case h11 => (intro wg hSw; go_simp <;> with_reducible rfl)
  simp only [Act.put, List.setIfInBounds_toArray, List.set_cons_zero, List.set_cons_succ]
  refine wpAnyG_take (i := 9) (v := ?v12) rfl (by kernel_rfl) (by kernel_rfl) (by kernel_rfl) (fun _ _ _ h => h) (by rfl) ?h12 ?r12
  case h12 => (intro wg hSw; go_simp <;> with_reducible rfl)
  simp only [Act.put, List.setIfInBounds_toArray, List.set_cons_zero, List.set_cons_succ]
  refine wpAnyG_take (i := 10) (v := ?v13) rfl (by kernel_rfl) (by kernel_rfl) (by kernel_rfl) (fun _ _ _ h => h) (by rfl) ?h13 ?r13
  case h13 => (intro wg hSw; go_simp <;> with_reducible rfl)
  simp only [Act.put, List.setIfInBounds_toArray, List.set_cons_zero, List.set_cons_succ]
  refine wpAnyG_take (i := 11) (v := ?v14) rfl (by kernel_rfl) (by kernel_rfl) (by kernel_rfl) (fun _ _ _ h => h) (by rfl) ?h14 ?r14
  case h14 => (intro wg hSw; go_simp <;> with_reducible rfl)
  simp only [Act.put, List.setIfInBounds_toArray, List.set_cons_zero, List.set_cons_succ]
  refine wpAnyG_one (i := 7) rfl (by kernel_rfl) (by rfl) (fun K hK => ?_)
  go_simp
  refine hK.out _ _ ((Below.refl _ _).alloc (Nat.le_refl _) _) ?_
  clear hK K
  try simp only [Act.put, List.setIfInBounds_toArray, List.set_cons_zero, List.set_cons_succ]
  refine wpAnyG_one (i := 8) rfl (by kernel_rfl) (by rfl) (fun K hK => ?_)
  go_simp
  refine (sum_one _ n _ cs T (bs.take n) w1.drew HT.out (by rw [List.length_take, HL.out]; omega) (by simp) (by omega) (HB.out.take n) HN.out).mono ?_
  rintro e w3 ⟨rfl, hb3⟩
  have hg3 : Grow w1 w3 := Grow.of_drew (grow_alloc hb3)
  refine hK.out _ _ (hb3) ?_
  clear hK K
  try simp only [Act.put, List.setIfInBounds_toArray, List.set_cons_zero, List.set_cons_succ]
  refine wpAnyG_one (i := 12) rfl (by kernel_rfl) (by rfl) (fun K hK => ?_)
  go_simp
  refine (sumAt_four b off _ (bs.drop n) _ w1.heap.size n (HB.out.drop n) (by rw [List.length_drop, HL.out]; omega) ?_).mono ?_
  · exact HD.out.below hg3
  rintro e w4 ⟨rfl, rfl⟩
  refine hK.out _ _ (Grow.refl _) ?_
  clear hK K
  try simp only [Act.put, List.setIfInBounds_toArray, List.set_cons_zero, List.set_cons_succ]
  refine wpAnyG_take (i := 13) (v := ?v15) rfl (by kernel_rfl) (by kernel_rfl) (by kernel_rfl) (fun _ _ _ h => h) (by rfl) ?h15 ?r15
  case h15 => (intro wg hSw; go_simp <;> with_reducible rfl)
  simp only [Act.put, List.setIfInBounds_toArray, List.set_cons_zero, List.set_cons_succ]
  refine wpAnyG_take (i := 14) (v := ?v16) rfl (by kernel_rfl) (by kernel_rfl) (by kernel_rfl) (fun _ _ _ h => h) (by rfl) ?h16 ?r16
  case h16 => (intro wg hSw; go_simp <;> with_reducible rfl)
  simp only [Act.put, List.setIfInBounds_toArray, List.set_cons_zero, List.set_cons_succ]
  refine wpAnyG_done (by kernel_rfl) ?_
  go_wp2
  go_ret2
  exact ⟨rfl, HB1.out.trans hg3⟩
set_option maxRecDepth 10000 in
set_option maxHeartbeats 800000 in
theorem open_yes (A : Option Addr) (n cap : Nat) (cs : Array Value) (T : Nat → Nat) (bs : List Int) (w : World) (hT : IsTab cs T) (hl : bs.length = n + 4) (hm : n + 4 ≤ 200000000000000) (hcap : n + 4 ≤ cap) (hb : Byt bs) (hr : Nums .u8 w w.heap.size A bs)
    (heq : moreN T 0 (bs.take n) = le (bs.drop n)) : Calls Try.prog 13 #[.agg cs, .slice A (n + 4) cap] w (OpenYes (bs.take n) w) := by
  have hb1 : Grow w (w.alloc (.cells cs 24)) := (Below.refl _ _).alloc (Nat.le_refl _) _
  have hr1 := (hr.below hb1).more hb1.size
  have hg1 := heap_alloc_new w (.cells cs 24)
  obtain ⟨b, off, rfl, _, _⟩ := hr (by omega)
  have hlt : decide ((n : Int) < 0) = false := by simp
  have hcn : n ≤ cap := by omega
  have hcn2 : ¬ cap = n := by omega
  have hcn3 : (n : Int) ≤ (n : Int) + 4 := by omega
  have hnb : (((moreN T 0 (bs.take n) : Nat) : Int) != ((le (bs.drop n) : Nat) : Int)) = false := by
    rw [heq]
    simp
  have hmk := fun W => run_make_row' (P := Try.prog) 28 5 (.int .u8 0) 1 Try.underlying28 info5 rfl .i64 .i64 n (by omega) (by omega) W
  have HB1 := Lib.hid hb1
  have HN := Lib.hid (hr1.take n)
  have HD := Lib.hid (hr1.drop_ n)
  have hs1 := Lib.hid (show (w.alloc (.cells cs 24)).heap.size = w.heap.size + 1 by simp)
  have HT := Lib.hid hT
  have HB := Lib.hid hb
  have HL := Lib.hid hl
  clear hr1 hr hb1 hb hT heq hl
  go_enter Try.func13, Try.ntmps13
  go_wp2
  generalize w.alloc (.cells cs 24) = w1 at *
  have htb : ∀ wg, Grow w1.drew wg → wg.heap[w.heap.size]? = some (.cells cs 24 (0, 0)) := fun wg hg => (hg.block w.heap.size (by show _ < w1.heap.size; have := hs1.out; omega)).trans hg1
  have HSZ := HT.out.1
  refine wp_region_grow (n := 15) rfl (by kernel_rfl) ?_
  refine wpAnyG_take (i := 0) (v := ?v17) rfl (by kernel_rfl) (by kernel_rfl) (by kernel_rfl) (fun _ _ _ h => h) (by rfl) ?h17 ?r17
  case h17 => (intro wg hSw; go_simp <;> with_reducible rfl)
  simp only [Act.put, List.setIfInBounds_toArray, List.set_cons_zero, List.set_cons_succ]
  refine wpAnyG_take (i := 1) (v := ?v18) rfl (by kernel_rfl) (by kernel_rfl) (by kernel_rfl) (fun _ _ _ h => h) (by rfl) ?h18 ?r18
  case h18 => (intro wg hSw; go_simp <;> with_reducible rfl)
  simp only [Act.put, List.setIfInBounds_toArray, List.set_cons_zero, List.set_cons_succ]
  refine wpAnyG_take (i := 2) (v := ?v19) rfl (by kernel_rfl) (by kernel_rfl) (by kernel_rfl) (fun _ _ _ h => h) (by rfl) ?h19 ?r19
  case h19 => (intro wg hSw; go_simp <;> with_reducible rfl)
  simp only [Act.put, List.setIfInBounds_toArray, List.set_cons_zero, List.set_cons_succ]
  refine wpAnyG_take (i := 3) (v := Value.agg cs) rfl (by kernel_rfl) (by kernel_rfl) (by kernel_rfl) (fun _ _ _ h => h) (by rfl) ?h20 ?r20
  case h20 => exact fun wg hSw => exec_tab rfl rfl (htb wg hSw) HSZ
  simp only [Act.put, List.setIfInBounds_toArray, List.set_cons_zero, List.set_cons_succ]
  refine wpAnyG_take (i := 4) (v := ?v21) rfl (by kernel_rfl) (by kernel_rfl) (by kernel_rfl) (fun _ _ _ h => h) (by rfl) ?h21 ?r21
  case h21 => (intro wg hSw; go_simp <;> with_reducible rfl)
  simp only [Act.put, List.setIfInBounds_toArray, List.set_cons_zero, List.set_cons_succ]
  refine wpAnyG_take (i := 5) (v := ?v22) rfl (by kernel_rfl) (by kernel_rfl) (by kernel_rfl) (fun _ _ _ h => h) (by rfl) ?h22 ?r22
  case h22 => (intro wg hSw; go_simp <;> with_reducible rfl)
  simp only [Act.put, List.setIfInBounds_toArray, List.set_cons_zero, List.set_cons_succ]
  refine wpAnyG_take (i := 6) (v := ?v23) rfl (by kernel_rfl) (by kernel_rfl) (by kernel_rfl) (fun _ _ _ h => h) (by rfl) ?h23 ?r23
  case h23 => (intro wg hSw; go_simp <;> with_reducible rfl)
  simp only [Act.put, List.setIfInBounds_toArray, List.set_cons_zero, List.set_cons_succ]
  refine wpAnyG_take (i := 9) (v := ?v24) rfl (by kernel_rfl) (by kernel_rfl) (by kernel_rfl) (fun _ _ _ h => h) (by rfl) ?h24 ?r24
  case h24 => (intro wg hSw; go_simp <;> with_reducible rfl)
  simp only [Act.put, List.setIfInBounds_toArray, List.set_cons_zero, List.set_cons_succ]
  refine wpAnyG_take (i := 10) (v := ?v25) rfl (by kernel_rfl) (by kernel_rfl) (by kernel_rfl) (fun _ _ _ h => h) (by rfl) ?h25 ?r25
  case h25 => (intro wg hSw; go_simp <;> with_reducible rfl)
  simp only [Act.put, List.setIfInBounds_toArray, List.set_cons_zero, List.set_cons_succ]
  refine wpAnyG_take (i := 11) (v := ?v26) rfl (by kernel_rfl) (by kernel_rfl) (by kernel_rfl) (fun _ _ _ h => h) (by rfl) ?h26 ?r26
  case h26 => (intro wg hSw; go_simp <;> with_reducible rfl)
  simp only [Act.put, List.setIfInBounds_toArray, List.set_cons_zero, List.set_cons_succ]
  refine wpAnyG_one (i := 7) rfl (by kernel_rfl) (by rfl) (fun K hK => ?_)
  go_simp
  refine hK.out _ _ ((Below.refl _ _).alloc (Nat.le_refl _) _) ?_
  clear hK K
  try simp only [Act.put, List.setIfInBounds_toArray, List.set_cons_zero, List.set_cons_succ]
  refine wpAnyG_one (i := 8) rfl (by kernel_rfl) (by rfl) (fun K hK => ?_)
  go_simp
  refine (sum_one _ n _ cs T (bs.take n) w1.drew HT.out (by rw [List.length_take, HL.out]; omega) (by simp) (by omega) (HB.out.take n) HN.out).mono ?_
  rintro e w3 ⟨rfl, hb3⟩
  have hg3 : Grow w1 w3 := Grow.of_drew (grow_alloc hb3)
  refine hK.out _ _ (hb3) ?_
  clear hK K
  try simp only [Act.put, List.setIfInBounds_toArray, List.set_cons_zero, List.set_cons_succ]
  refine wpAnyG_one (i := 12) rfl (by kernel_rfl) (by rfl) (fun K hK => ?_)
  go_simp
  refine (sumAt_four b off _ (bs.drop n) _ w1.heap.size n (HB.out.drop n) (by rw [List.length_drop, HL.out]; omega) ?_).mono ?_
  · exact HD.out.below hg3
  rintro e w4 ⟨rfl, rfl⟩
  refine hK.out _ _ (Grow.refl _) ?_
  clear hK K
  try simp only [Act.put, List.setIfInBounds_toArray, List.set_cons_zero, List.set_cons_succ]
  refine wpAnyG_take (i := 13) (v := ?v27) rfl (by kernel_rfl) (by kernel_rfl) (by kernel_rfl) (fun _ _ _ h => h) (by rfl) ?h27 ?r27
  case h27 => (intro wg hSw; go_simp <;> with_reducible rfl)
  simp only [Act.put, List.setIfInBounds_toArray, List.set_cons_zero, List.set_cons_succ]
  refine wpAnyG_take (i := 14) (v := ?v28) rfl (by kernel_rfl) (by kernel_rfl) (by kernel_rfl) (fun _ _ _ h => h) (by rfl) ?h28 ?r28
  case h28 => (intro wg hSw; go_simp <;> with_reducible rfl)
  simp only [Act.put, List.setIfInBounds_toArray, List.set_cons_zero, List.set_cons_succ]
  refine wpAnyG_done (by kernel_rfl) ?_
  clear htb hlt
  obtain ⟨c, hgc, hsz, _⟩ := World.rowIs_made w4 (.int .u8 0) n 5
  have hcl : c.toList.toArray = c := by simp
  have HGC := Lib.hid (show (w4.alloc (.cells (madeCells #[.int .u8 0] n) 5)).heap[w4.heap.size]? = some (.cells c.toList.toArray 5 (0, 0)) by rw [hcl]; exact hgc)
  have hlt : (bs.take n).length = n := by rw [List.length_take, HL.out]; omega
  have HLT := Lib.hid hlt
  have HCN := Lib.hid (show (u8s (bs.take n)).length = Nat.min (n + 4) n by rw [u8s_len, hlt]; exact (Nat.min_eq_right (by omega)).symm)
  have HPOS := Lib.hid (show 0 < (u8s (bs.take n)).length → some (⟨w4.heap.size, 0, none⟩ : Addr) = some ⟨w4.heap.size, 0, none⟩ ∧ ∃ ad, some (⟨b, off, none⟩ : Addr) = some ad ∧ ∀ j v, (u8s (bs.take n))[j]? = some v → (w4.alloc (.cells (madeCells #[.int .u8 0] n) 5)).cell? (ad.add j) = some v from
    fun _ => ⟨rfl, ⟨b, off, none⟩, rfl, nums_news ((HN.out.below hg3).below (Below.mono ((Below.refl _ _).alloc (Nat.le_refl _) _) hg3.size))⟩)
  have HFIT := Lib.hid (show 0 + (u8s (bs.take n)).length ≤ c.toList.length by rw [u8s_len, hlt, Array.length_toList, hsz]; omega)
  have HBW : Grow w4 (w4.alloc (.cells (madeCells #[.int .u8 0] n) 5)) := (Below.refl _ _).alloc (Nat.le_refl _) _
  have hi5 : (Try.prog.info? 5).map (·.size) = some 1 := by kernel_rfl
  clear hgc hcl hlt
  go_wp2_with (refine wpList_copy_splice rfl _ _ 28 28 rfl 5 Try.underlying28 hi5 _ _ _ _ _ _ rfl rfl w4.heap.size 0 c.toList 5 HGC.out (u8s (bs.take n)) HCN.out HPOS.out HFIT.out (u8s_one _) w4.heap.size w4 HBW (Nat.le_refl _) ?_; intro w5 hrow5 hb5)
  go_wp2
  go_ret2
  refine ⟨w4.heap.size, by rw [HLT.out]; rfl, ?_, HB1.out.trans (Grow.trans hg3 hb5)⟩
  have hsp : splice c.toList 0 (u8s (bs.take n)) = u8s (bs.take n) := by
    unfold splice
    rw [List.take_zero, List.nil_append, Nat.zero_add, List.drop_of_length_le, List.append_nil]
    rw [u8s_len, HLT.out, Array.length_toList, hsz]
    exact Nat.le_refl _
  refine ⟨(u8s (bs.take n)).toArray, by rw [← hsp]; exact hrow5.out, by simp [u8s], fun i hi => ?_⟩
  rw [HLT.out] at hi
  have hi' : i < (bs.take n).length := by rw [HLT.out]; exact hi
  rw [List.getElem?_toArray]
  unfold u8s
  rw [List.getElem?_map, List.getElem?_eq_getElem hi']
  show some (Value.int .u8 _) = some (Value.int .u8 ((bs.take n).getD i 0))
  rw [List.getD_eq_getElem?_getD, List.getElem?_eq_getElem hi']
  rfl
end Go.Proofs.Ytbpdjohbbhblcaa
