/-
  The law CrcLinear at every input.
-/
import Derived.Test.YtbpdjohbbhblcaaLinear
namespace Go.Proofs.Ytbpdjohbbhblcaa
open Go.RowKit

set_option maxRecDepth 10000 in
set_option maxHeartbeats 800000 in
theorem linear_no (A1 A2 A3 : Option Addr) (c1 c2 c3 n1 n2 n3 : Nat) (p : Int) (w : World) (h1 : n1 ≤ 9223372036854775807) (h : ¬ (n1 ≤ 300 ∧ n2 = n1 ∧ n3 = n1)) :
    Calls Try.prog 7 #[.int .u32 p, .slice A1 n1 c1, .slice A2 n2 c2, .slice A3 n3 c3] w (Fine w) := by
  by_cases g1 : n1 ≤ 300
  · have d1 : decide ((300 : Int) < (n1 : Int)) = false := by simp; omega
    by_cases g2 : n2 = n1
    · have d2 : ((n2 : Int) != (n1 : Int)) = false := by rw [g2]; simp
      have d3 : ((n3 : Int) != (n1 : Int)) = true := by rw [bne_iff_ne]; omega
      clear h g2
      go_enter Try.func7, Try.ntmps7
      go_wp2_with fail
      refine (small_any w).mono ?_
      rintro e w1 ⟨rfl, hb1⟩
      go_wp2
      go_ret
      exact ⟨rfl, hb1⟩
    · have d2 : ((n2 : Int) != (n1 : Int)) = true := by rw [bne_iff_ne]; omega
      clear h g2
      go_enter Try.func7, Try.ntmps7
      go_wp2_with fail
      refine (small_any w).mono ?_
      rintro e w1 ⟨rfl, hb1⟩
      go_wp2
      go_ret
      exact ⟨rfl, hb1⟩
  · have d1 : decide ((300 : Int) < (n1 : Int)) = true := by simp; omega
    clear h
    go_enter Try.func7, Try.ntmps7
    go_wp2_with fail
    refine (small_any w).mono ?_
    rintro e w1 ⟨rfl, hb1⟩
    go_wp2
    go_ret
    exact ⟨rfl, hb1⟩

theorem linear_walk (A1 A2 A3 : Option Addr) (c1 c2 c3 n1 n2 n3 : Nat) (a b c : List Int) (p : Int) (w : World) (h1 : a.length = n1) (h2 : b.length = n2) (h3 : c.length = n3) (hl : n1 ≤ 9223372036854775807) (hp : 0 ≤ p ∧ p ≤ 4294967295)
    (e1 : A1 = none → c1 = 0) (e2 : A2 = none → c2 = 0) (e3 : A3 = none → c3 = 0) (ba : Byt a) (bb : Byt b) (bc : Byt c)
    (r1 : Nums .u8 w w.heap.size A1 a) (r2 : Nums .u8 w w.heap.size A2 b) (r3 : Nums .u8 w w.heap.size A3 c) :
    Calls Try.prog 7 #[.int .u32 p, .slice A1 n1 c1, .slice A2 n2 c2, .slice A3 n3 c3] w (Fine w) := by
  by_cases h : n1 ≤ 300 ∧ n2 = n1 ∧ n3 = n1
  · obtain ⟨g1, rfl, rfl⟩ := h
    obtain ⟨P, rfl⟩ := Int.eq_ofNat_of_zero_le hp.1
    exact linear_yes A1 A2 A3 c1 c2 c3 _ a b c P w h1 h2 h3 g1 (by omega) e1 e2 e3 ba bb bc r1 r2 r3
  · exact linear_no A1 A2 A3 c1 c2 c3 n1 n2 n3 p w hl h
end Go.Proofs.Ytbpdjohbbhblcaa
