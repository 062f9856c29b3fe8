/-
  What crc.Table comes to, called with anything.
-/
import Derived.Test.YtbpdjohbbhblcaaSteps
import Derived.Laws.Tables
namespace Go.Proofs.Ytbpdjohbbhblcaa
open Go.RowKit

/-- the cells of a table -/
def IsTab (cs : Array Value) (T : Nat → Nat) : Prop := cs.size = 256 ∧ (∀ i, i < 256 → cs[i]? = some (.int .u32 (T i : Nat))) ∧ Small T

def zs24 : Array Value := Array.replicate 256 (.int .u32 0)
theorem info24 : (Try.prog.info? 24).map (fun i => (i.zero, i.size, i.bytes)) = some (some (.agg zs24), 256, 1024) := by kernel_rfl
theorem size24 : (Try.prog.info? 24).map (·.size) = some 256 := by kernel_rfl
theorem zero24 (w : World) : (zeroValue 24).run Try.prog w = .ok (.agg zs24) w := by
  obtain ⟨i, hi, h0, _, _⟩ := info_parts info24
  simp [zeroValue, typeInfo, hi, h0]

theorem zs_size : zs24.size = 256 := by simp [zs24]
theorem tab_one {cs : Array Value} {T : Nat → Nat} (h : IsTab cs T) : cs.all (·.oneCell') = true := by
  rw [Array.all_eq_true]
  intro i hi
  have h1 := h.2.1 i (by have := h.1; omega)
  rw [Array.getElem?_eq_getElem hi] at h1
  have h2 : cs[i] = .int .u32 (T i : Nat) := by simpa using h1
  rw [h2]
  rfl

theorem below_setRow {B : Nat} {a w : World} (h : Below B a w) {g : Nat} (hB : B ≤ g) (cs : Array Value) : Below B a (w.setRow g cs) :=
  h.trans ⟨rfl, rfl, rfl, by simp, fun k hk => setRow_other w g k cs (by omega)⟩

/-- what Table gives: the table of the polynomial, new memory alone -/
def Tabled (p : Nat) (w : World) (e : Ending) (w' : World) : Prop := ∃ cs, e = .returned (.agg cs) ∧ IsTab cs (tabF p) ∧ Below w.heap.size w w'

theorem ret_tab {fn : Func} {q : Tmp} {R : Ending → World → Prop} {a : Act} {w : World} {g : Nat} {cs : Array Value} (h : fn.results = #[.cell q 24]) (hs : cs.size = 256) (hp : a.tmps.getD q undef = .pointer (some ⟨g, 0, none⟩))
    (hg : w.heap[g]? = some (.cells cs 24 (0, 0))) (hd : a.defers = []) (hR : R (.returned (.agg cs)) w) : bodyPost Try.prog fn R .ret a w :=
  bodyPost_ret (v := .agg cs) (results_cell_row h _ w g 24 cs (0, 0) _ hp hg Try.underlying24 rfl (by rw [hs]; exact size24)) hd hR

set_option maxRecDepth 10000 in
set_option maxHeartbeats 400000 in
theorem table_any (p : Nat) (w : World) (hp : p < 4294967296) : Calls Try.prog 10 #[.int .u32 p] w (Tabled p w) := by
  have hz := zero24
  go_enter Try.func10, Try.ntmps10
  go_wp2
  have hrow0 : ((w.alloc (.cells zs24 24)).alloc (.cells zs24 24)).rowIs (w.heap.size + 1) 24 256 (fun j => .int .u32 ((if j < 0 then tabF p j else 0 : Nat) : Int)) := by
    have := World.rowIs_alloc (w.alloc (.cells zs24 24)) zs24 24 (fun j => .int .u32 ((if j < 0 then tabF p j else 0 : Nat) : Int)) (fun i hi => by
      have hi' : i < 256 := by rw [zs_size] at hi; exact hi
      simp [zs24, hi'])
    rw [zs_size] at this
    simpa using this
  have hold0 := heap_alloc2_old w (.cells zs24 24) (.cells zs24 24)
  clear hz
  go_loopw [5] (fun i wr => ∃ k : Nat, k ≤ 256 ∧ i = .int .i64 k ∧ wr.rowIs (w.heap.size + 1) 24 256 (fun j => .int .u32 ((if j < k then tabF p j else 0 : Nat) : Int)) ∧ wr.heap[w.heap.size]? = some (.cells zs24 24 (0, 0)) ∧ Below w.heap.size w wr)
    (fun i _ => 256 - (intOf i).toNat)
  case atStart => exact ⟨0, Nat.zero_le _, rfl, hrow0, hold0, ((Below.refl _ _).alloc (Nat.le_refl _) _).alloc (by simp) _⟩
  case round =>
    obtain ⟨k, hk, rfl, hrow, hold, hbel⟩ := hrel
    clear hrow0 hold0
    by_cases hlt : k < 256
    · have hc := hrow.cell hlt
      have hf := hrow.frozen k
      have hlt' := hrow.lt
      have HR := Lib.hid hrow
      have HO := Lib.hid hold
      clear hrow hold
      go_wp2_with (go_at_call 21; refine (eight_any _ _ _ (by omega) hp).mono ?_; rintro e w' ⟨rfl, rfl⟩)
      go_roundw
      case rel =>
        refine ⟨k + 1, by omega, by go_num, ?_, ?_, hbel.setCell (by simp) _⟩
        · refine (HR.out.set k _).congr fun j hj => ?_
          by_cases e : j = k
          · simp [e]
          · by_cases e2 : j < k
            · simp [e, e2, show j < k + 1 by omega]
            · simp [e, e2, show ¬ j < k + 1 by omega]
        · rw [heap_setCell_other _ _ _ _ (by simp)]
          exact HO.out
      case measure => simp [intOf]; omega
    · have e : k = 256 := by omega
      subst e
      obtain ⟨cs, hg, hs, hc⟩ := hrow
      have htab : IsTab cs (tabF p) := ⟨hs, fun i hi => by rw [hc i hi]; simp [hi], tab_small p hp⟩
      clear hc
      go_wp2_with (first | refine wpList_load_row rfl 24 _ rfl (w.heap.size + 1) rfl 24 cs (0, 0) _ hg Try.underlying24 rfl (by rw [hs]; exact size24) ?_ | refine wpList_store_row rfl 24 _ _ rfl w.heap.size cs rfl rfl 24 zs24 hold (by rw [hs]; exact size24) (by rw [hs]; exact zs_size) (tab_one htab) ?_)
      exact ret_tab rfl hs rfl (setRow_heap _ _ _ _ _ _ hold) rfl ⟨cs, rfl, htab, below_setRow hbel (Nat.le_refl _) cs⟩
end Go.Proofs.Ytbpdjohbbhblcaa
