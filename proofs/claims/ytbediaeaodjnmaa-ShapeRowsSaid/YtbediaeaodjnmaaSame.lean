/-
  What the document's Same comes to, called with two rows of the same numbers.
-/
import Derived.Test.YtbediaeaodjnmaaIndex
import Derived.BigRegion
namespace Go.Proofs.Ytbediaeaodjnmaa
open Go.RowKit Go.Lib
set_option linter.unusedSimpArgs false
set_option linter.unusedVariables false

def Fine (w : World) (e : Ending) (w' : World) : Prop := e = .returned (.bool true) ∧ Grow w w'

set_option maxHeartbeats 800000 in
theorem same_eq (A A' : Option Addr) (n cap cap' : Nat) (xs : List Int) (w : World) (hn : xs.length = n) (hl : n ≤ 1000000) (hr : Nums .i64 w w.heap.size A xs) (hr' : Nums .i64 w w.heap.size A' xs) :
    Calls Try.prog 15 #[.slice A n cap, .slice A' n cap'] w (Fine w) := by
  have HR := Lib.hid hr
  have HR' := Lib.hid hr'
  have HN := Lib.hid hn
  clear hr hr' hn
  have hne : (((n : Nat) : Int) != ((n : Nat) : Int)) = false := by simp
  go_enter Try.func15, Try.ntmps15
  go_wp2
  go_loopg [5] n (fun g i wr => ∃ k : Nat, k ≤ n ∧ g = n - k ∧ i = .int .i64 k ∧ Hid (Grow w wr))
  case atStart => exact ⟨0, Nat.zero_le _, rfl, rfl, Lib.hid (Grow.refl _)⟩
  case round =>
    obtain ⟨k, hk, rfl, rfl, HG⟩ := hrel
    by_cases hlt : k < n
    · obtain ⟨b, off, rfl, hb, hc⟩ := HR.out.grow HG.out (by rw [HN.out]; omega)
      obtain ⟨b', off', rfl, hb', hc'⟩ := HR'.out.grow HG.out (by rw [HN.out]; omega)
      have h1 := hc k (by rw [HN.out]; exact hlt)
      have h2 := hc' k (by rw [HN.out]; exact hlt)
      clear hc hc'
      generalize xs.getD k 0 = x at h1 h2
      go_wp2
      go_quiet (fail)
      go_wp2
      go_roundg (n - (k + 1))
      case rel => exact ⟨k + 1, by omega, rfl, by go_num, Lib.hid (HG.out.drewN _)⟩
      case measure => omega
    · go_wp2
      go_ret
      exact ⟨rfl, HG.out⟩

/-- a literal of numbers -/
def iv (x : Int) : Value := .int .i64 x
theorem nums_lit (w : World) (xs : List Int) : Nums .i64 (w.alloc (.cells (xs.map iv).toArray 3)) (w.alloc (.cells (xs.map iv).toArray 3)).heap.size (some ⟨w.heap.size, 0, none⟩) xs := fun _ => by
  refine ⟨w.heap.size, 0, rfl, by simp, fun i hi => ?_⟩
  rw [World.cell?_alloc_new]
  simp [iv, hi]
theorem nums_made (w : World) (n : Nat) : Nums .i64 (w.alloc (.cells (madeCells #[.int .i64 0] n) 3)) (w.alloc (.cells (madeCells #[.int .i64 0] n) 3)).heap.size (some ⟨w.heap.size, 0, none⟩) (List.replicate n 0) := by
  refine Nums.of_row (t := 3) ?_
  rw [List.length_replicate]
  exact (World.rowIs_made w (.int .i64 0) n 3).congr fun j hj => by simp [hj]

theorem count_says {xs : List Int} {C : Nat} {b : Bool} (h : cnt xs = C ∧ rightB xs = b) {A : Option Addr} {n c : Nat} (w : World) (hn : xs.length = n) (hm : n ≤ 9223372036854775807) (hr : Nums .i64 w w.heap.size A xs) :
    Calls Try.prog 9 #[.slice A n c] w (Gives (.tuple #[.int .i64 (C : Nat), .bool b]) w) := by
  obtain ⟨rfl, rfl⟩ := h
  exact count_any A n c xs w hn hm hr
theorem place_says {xs ys : List Int} {C : Nat} {b : Bool} (h : plc xs ys = C ∧ plcB xs ys = b) {A A' : Option Addr} {n c n' c' : Nat} (w : World) (hn : xs.length = n) (hm : n ≤ 9223372036854775807) (hn' : ys.length = n') (hm' : n' ≤ 9223372036854775807) (hr : Nums .i64 w w.heap.size A xs) (hr' : Nums .i64 w w.heap.size A' ys) :
    Calls Try.prog 11 #[.slice A n c, .slice A' n' c'] w (fun e w' => e = .returned (.tuple #[.int .i64 (C : Nat), .bool b]) ∧ Grow w w') := by
  obtain ⟨rfl, rfl⟩ := h
  exact place_any A A' n c n' c' xs ys w hn hm hn' hm' hr hr'
theorem index_says {xs : List Int} {i : Int} {zs : List Int} {k : Nat} {b : Bool} (h : ind xs i = zs ∧ indB xs i = b) (hk : zs.length = k) {A : Option Addr} {n c : Nat} (w : World) (hn : xs.length = n) (hm : n ≤ 9223372036854775807) (hr : Nums .i64 w w.heap.size A xs) (hi : -9223372036854775808 ≤ i ∧ i ≤ 9223372036854775807) :
    Calls Try.prog 13 #[.slice A n c, .int .i64 i] w (fun e w' => ∃ A', e = .returned (.tuple #[.slice A' k k, .bool b]) ∧ Nums .i64 w' w'.heap.size A' zs ∧ Grow w w') := by
  obtain ⟨rfl, rfl⟩ := h
  subst hk
  exact index_any A n c xs i w hn hm hr hi
end Go.Proofs.Ytbediaeaodjnmaa
