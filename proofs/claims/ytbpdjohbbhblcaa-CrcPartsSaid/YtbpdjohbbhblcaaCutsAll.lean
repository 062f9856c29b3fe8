/-
  The law CrcParts at every input.
-/
import Derived.Test.YtbpdjohbbhblcaaCuts
import Derived.Test.YtbpdjohbbhblcaaOpens
namespace Go.Proofs.Ytbpdjohbbhblcaa
open Go.RowKit

set_option maxRecDepth 10000 in
set_option maxHeartbeats 800000 in
theorem cuts_no (A : Option Addr) (cap n : Nat) (cs : Array Value) (i k : Int) (w : World) (hl : n ≤ 9223372036854775807) (h : ¬ (n ≤ 1000 ∧ 0 ≤ i ∧ i ≤ k ∧ k ≤ (n : Int))) :
    Calls Try.prog 6 #[.agg cs, .slice A n cap, .int .i64 i, .int .i64 k] w (Fine w) := by
  have hb0 : Grow w (w.alloc (.cells cs 24)) := grow_new _ _
  by_cases g1 : n ≤ 1000
  · have d1 : decide ((1000 : Int) < (n : Int)) = false := by simp; omega
    by_cases g2 : i < 0
    · have d2 : decide (i < 0) = true := by simpa using g2
      clear h
      go_enter Try.func6, Try.ntmps6
      go_wp2_with fail
      generalize w.alloc (.cells cs 24) = w0 at *
      refine (small_any w0).mono ?_
      rintro e w1 ⟨rfl, hb1⟩
      go_wp2
      go_ret
      exact ⟨rfl, hb0.trans hb1⟩
    · have d2 : decide (i < 0) = false := by simpa using g2
      by_cases g3 : k < i
      · have d3 : decide (k < i) = true := by simpa using g3
        clear h
        go_enter Try.func6, Try.ntmps6
        go_wp2_with fail
        generalize w.alloc (.cells cs 24) = w0 at *
        refine (small_any w0).mono ?_
        rintro e w1 ⟨rfl, hb1⟩
        go_wp2
        go_ret
        exact ⟨rfl, hb0.trans hb1⟩
      · have d3 : decide (k < i) = false := by simpa using g3
        have d4 : decide ((n : Int) < k) = true := by simp; omega
        clear h
        go_enter Try.func6, Try.ntmps6
        go_wp2_with fail
        generalize w.alloc (.cells cs 24) = w0 at *
        refine (small_any w0).mono ?_
        rintro e w1 ⟨rfl, hb1⟩
        go_wp2
        go_ret
        exact ⟨rfl, hb0.trans hb1⟩
  · have d1 : decide ((1000 : Int) < (n : Int)) = true := by simp; omega
    clear h
    go_enter Try.func6, Try.ntmps6
    go_wp2_with fail
    generalize w.alloc (.cells cs 24) = w0 at *
    refine (small_any w0).mono ?_
    rintro e w1 ⟨rfl, hb1⟩
    go_wp2
    go_ret
    exact ⟨rfl, hb0.trans hb1⟩

theorem cuts_walk (A : Option Addr) (cap n : Nat) (cs : Array Value) (T : Nat → Nat) (bs : List Int) (i k : Int) (w : World) (hT : IsTab cs T) (hn : bs.length = n) (hl : n ≤ 9223372036854775807) (hcap : n ≤ cap)
    (hc : A = none → cap = 0) (hb : Byt bs) (hr : Nums .u8 w w.heap.size A bs) : Calls Try.prog 6 #[.agg cs, .slice A n cap, .int .i64 i, .int .i64 k] w (Fine w) := by
  by_cases h : n ≤ 1000 ∧ 0 ≤ i ∧ i ≤ k ∧ k ≤ (n : Int)
  · obtain ⟨h1, h2, h3, h4⟩ := h
    obtain ⟨I, rfl⟩ := Int.eq_ofNat_of_zero_le h2
    obtain ⟨K, rfl⟩ := Int.eq_ofNat_of_zero_le (show 0 ≤ k by omega)
    exact cuts_yes A _ _ cap n cs T bs I K w hT hn h1 (by omega) (by omega) hcap rfl rfl hc hb hr
  · exact cuts_no A cap n cs i k w hl h
end Go.Proofs.Ytbpdjohbbhblcaa
