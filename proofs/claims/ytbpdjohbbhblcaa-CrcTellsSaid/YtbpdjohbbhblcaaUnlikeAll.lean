/-
  The law CrcUnlike at every input.
-/
import Derived.Test.YtbpdjohbbhblcaaUnlike
import Derived.OpenShut
namespace Go.Proofs.Ytbpdjohbbhblcaa
open Go.RowKit

theorem block_lt {w : World} {a : Addr} {v : Value} (h : w.cell? a = some v) : a.block < w.heap.size := by
  rcases Nat.lt_or_ge a.block w.heap.size with hlt | hge
  · exact hlt
  · simp [World.cell?, Array.getElem?_eq_none hge] at h

/-- what a slice of bytes that came in reads as -/
theorem nums_of_row {w : World} {a : Option Addr} {len cap : Nat} {zs : List Int}
    (h : (a = none ∧ len = 0 ∧ cap = 0 ∧ zs = []) ∨
      ∃ x, a = some x ∧ len ≤ cap ∧ cap ≤ maxLen ∧ zs.length = cap ∧ (∀ i, i < zs.length → w.cell? (x.add i) = some (.int .u8 (zs.getD i 0))) ∧ ∀ n ∈ zs, (Lit.int .u8 n).wf = true) :
    ∃ xs : List Int, xs.length = len ∧ len ≤ 9223372036854775807 ∧ Nums .u8 w w.heap.size a xs ∧ Byt xs ∧ len ≤ cap ∧ (a = none → cap = 0) := by
  rcases h with ⟨rfl, rfl, rfl, rfl⟩ | ⟨x, rfl, hl, hm, hz, hcell, hwf⟩
  · exact ⟨[], rfl, Nat.zero_le _, Nums.none_, byt_nil, Nat.le_refl _, fun _ => rfl⟩
  · refine ⟨zs.take len, by simp; omega, Nat.le_trans hl hm, fun hp => ?_, fun n hn => ?_, hl, by simp⟩
    · have hp' : 0 < zs.length := by simp at hp; omega
      have h0 := hcell 0 hp'
      obtain ⟨b, off, spot⟩ := x
      have hspot : spot = none := by simpa [Addr.add] using World.cell?_spot h0
      subst hspot
      refine ⟨b, off, rfl, by simpa [Addr.add] using block_lt h0, fun i hi => ?_⟩
      have hi1 : i < len ∧ i < zs.length := by simp at hi; omega
      have hc := hcell i hi1.2
      have e : (⟨b, off, none⟩ : Addr).add i = ⟨b, off + i, none⟩ := by unfold Addr.add; split <;> simp_all
      rw [e] at hc
      rw [hc]
      simp [hi1.1]
    · have := bounds_u8 (hwf n (List.mem_of_mem_take hn))
      omega

set_option maxRecDepth 10000 in
set_option maxHeartbeats 800000 in
theorem unlike_no (A : Option Addr) (len cap : Nat) (p k m : Int) (w : World) (hl : len ≤ 9223372036854775807) (hm0 : 0 ≤ m) (h : ¬ (len ≤ 1000 ∧ 2147483648 ≤ p ∧ m ≠ 0 ∧ 0 ≤ k ∧ k ≤ 8 * (len : Int) - 32)) :
    Calls Try.prog 8 #[.slice A len cap, .int .u32 p, .int .i64 k, .int .u32 m] w (Fine w) := by
  by_cases h1 : len ≤ 1000
  · have d1 : decide ((1000 : Int) < (len : Int)) = false := by simp; omega
    by_cases h2 : 2147483648 ≤ p
    · have d2 : decide (p < 2147483648) = false := by simp; omega
      by_cases h3 : m = 0
      · subst h3
        clear h hm0
        go_enter Try.func8, Try.ntmps8
        go_wp2_with fail
        refine (small_any w).mono ?_
        rintro e w1 ⟨rfl, hb1⟩
        go_wp2
        go_ret
        exact ⟨rfl, hb1⟩
      · have d3 : (m == 0) = false := by rw [beq_eq_false_iff_ne]; exact h3
        by_cases h4 : k < 0
        · have d4 : decide (k < 0) = true := by simpa using h4
          clear h hm0 h3
          go_enter Try.func8, Try.ntmps8
          go_wp2_with fail
          refine (small_any w).mono ?_
          rintro e w1 ⟨rfl, hb1⟩
          go_wp2
          go_ret
          exact ⟨rfl, hb1⟩
        · have d4 : decide (k < 0) = false := by simpa using h4
          have d5 : decide (8 * (len : Int) - 32 < k) = true := by simp; omega
          clear h hm0 h3
          go_enter Try.func8, Try.ntmps8
          go_wp2_with fail
          refine (small_any w).mono ?_
          rintro e w1 ⟨rfl, hb1⟩
          go_wp2
          go_ret
          exact ⟨rfl, hb1⟩
    · have d2 : decide (p < 2147483648) = true := by simp; omega
      clear h hm0
      go_enter Try.func8, Try.ntmps8
      go_wp2_with fail
      refine (small_any w).mono ?_
      rintro e w1 ⟨rfl, hb1⟩
      go_wp2
      go_ret
      exact ⟨rfl, hb1⟩
  · have d1 : decide ((1000 : Int) < (len : Int)) = true := by simp; omega
    clear h hm0
    go_enter Try.func8, Try.ntmps8
    go_wp2_with fail
    refine (small_any w).mono ?_
    rintro e w1 ⟨rfl, hb1⟩
    go_wp2
    go_ret
    exact ⟨rfl, hb1⟩

theorem unlike_walk (A : Option Addr) (cap len : Nat) (bs : List Int) (p k m : Int) (w : World) (hn : bs.length = len) (hl : len ≤ 9223372036854775807) (hp : 0 ≤ p ∧ p ≤ 4294967295) (hm : 0 ≤ m ∧ m ≤ 4294967295)
    (hb : Byt bs) (hr : Nums .u8 w w.heap.size A bs) : Calls Try.prog 8 #[.slice A len cap, .int .u32 p, .int .i64 k, .int .u32 m] w (Fine w) := by
  by_cases h : len ≤ 1000 ∧ 2147483648 ≤ p ∧ m ≠ 0 ∧ 0 ≤ k ∧ k ≤ 8 * (len : Int) - 32
  · obtain ⟨h1, h2, h3, h4, h5⟩ := h
    obtain ⟨P, rfl⟩ := Int.eq_ofNat_of_zero_le hp.1
    obtain ⟨M, rfl⟩ := Int.eq_ofNat_of_zero_le hm.1
    obtain ⟨K, rfl⟩ := Int.eq_ofNat_of_zero_le h4
    exact unlike_yes A cap len bs P K M w hn h1 (by omega) (by omega) (by omega) (by omega) (by omega) hb hr
  · exact unlike_no A len cap p k m w hl hm.1 h
end Go.Proofs.Ytbpdjohbbhblcaa
