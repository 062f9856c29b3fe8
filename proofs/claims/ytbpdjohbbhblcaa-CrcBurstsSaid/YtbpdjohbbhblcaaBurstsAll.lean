/-
  The law CrcBursts at every input.
-/
import Derived.Test.YtbpdjohbbhblcaaBursts
namespace Go.Proofs.Ytbpdjohbbhblcaa
open Go.RowKit
set_option linter.unusedSimpArgs false

set_option maxRecDepth 10000 in
set_option maxHeartbeats 2000000 in
theorem bursts_len (A : Option Addr) (cap n N : Nat) (bs : List Int) (p : Nat) (k m : Int) (w : World) (hn : bs.length = n) (hN : N = n + 4) (hl : n ≤ 200000000000000) (hp2 : p < 4294967296) (hc : A = none → cap = 0) (hb : Byt bs) (hr : Nums .u8 w w.heap.size A bs) (d1 : decide ((1000 : Int) < (n : Int)) = true) : Calls Try.prog 5 #[.slice A n cap, .int .u32 p, .int .i64 k, .int .u32 m] w (Fine w) := by
  have HNN := Lib.hid hN
  have HN := Lib.hid hn
  have HC := Lib.hid hc
  have HR := Lib.hid hr
  have HB := Lib.hid hb
  clear hr hn hb hN hc
  have d5 : decide ((N : Int) < 4) = false := by simp; have := HNN.out; omega
  have d7 : decide ((4 : Int) ≤ (N : Int)) = true := by simp; have := HNN.out; omega
  have hNl : N ≤ 200000000000004 := by have := HNN.out; omega
  have hz := zero24
  go_enter Try.func5, Try.ntmps5
  go_wp2_with fail
  refine (small_any w).mono ?_
  rintro e w1 ⟨rfl, hb1⟩
  go_wp2_with fail
  refine (table_any p w1 hp2).mono ?_
  rintro e w2 ⟨cs, rfl, hT, hb2⟩
  have hs := hT.1
  have HT := Lib.hid hT
  have hg0 := heap_alloc_new w2 (.cells zs24 24)
  have hg2 := setRow_heap (w2.alloc (.cells zs24 24)) w2.heap.size zs24 cs 24 (0, 0) hg0
  have hb3 : Grow w2 ((w2.alloc (.cells zs24 24)).setRow w2.heap.size cs) := Below.trans (grow_new _ _) (below_setRow (Below.refl w2.heap.size (w2.alloc (.cells zs24 24))) (Nat.le_refl _) cs)
  have hs2 := Lib.hid (show ((w2.alloc (.cells zs24 24)).setRow w2.heap.size cs).heap.size = w2.heap.size + 1 by simp)
  have hs24 : (Try.prog.info? 24).map (·.size) = some cs.size := by rw [hs]; exact size24
  have hz24 : zs24.size = cs.size := by rw [hs]; exact zs_size
  clear hT
  go_wp2_with (first | refine wpList_store_row rfl 24 _ _ rfl w2.heap.size cs rfl rfl 24 zs24 hg0 hs24 hz24 (tab_one HT.out) ?_ | refine wpList_tab rfl _ rfl w2.heap.size rfl cs hg2 hs ?_)
  rw [← hs2.out]
  generalize (w2.alloc (.cells zs24 24)).setRow w2.heap.size cs = w3 at *
  have hb13 : Grow w w3 := Grow.trans (Grow.trans hb1 hb2) hb3
  have HR3 := Lib.hid (HR.out.grow hb13)
  clear hg0 hs24 hz24 hz hg2 hs2 hb1 hb2 hb3
  refine (seal_one A n N cap cs (tabF p) bs w3 HT.out HN.out.symm HNN.out HC.out (by omega) HB.out HR3.out).mono ?_
  rintro e w5 ⟨gs, rfl, _, hb5⟩
  go_wp2
  go_ret
  exact ⟨rfl, hb13.trans hb5⟩

set_option maxRecDepth 10000 in
set_option maxHeartbeats 2000000 in
theorem bursts_poly (A : Option Addr) (cap n N : Nat) (bs : List Int) (p : Nat) (k m : Int) (w : World) (hn : bs.length = n) (hN : N = n + 4) (hl : n ≤ 200000000000000) (hp2 : p < 4294967296) (hc : A = none → cap = 0) (hb : Byt bs) (hr : Nums .u8 w w.heap.size A bs) (d1 : decide ((1000 : Int) < (n : Int)) = false) (d2 : decide ((p : Int) < 2147483648) = true) : Calls Try.prog 5 #[.slice A n cap, .int .u32 p, .int .i64 k, .int .u32 m] w (Fine w) := by
  have HNN := Lib.hid hN
  have HN := Lib.hid hn
  have HC := Lib.hid hc
  have HR := Lib.hid hr
  have HB := Lib.hid hb
  clear hr hn hb hN hc
  have d5 : decide ((N : Int) < 4) = false := by simp; have := HNN.out; omega
  have d7 : decide ((4 : Int) ≤ (N : Int)) = true := by simp; have := HNN.out; omega
  have hNl : N ≤ 200000000000004 := by have := HNN.out; omega
  have hz := zero24
  go_enter Try.func5, Try.ntmps5
  go_wp2_with fail
  refine (small_any w).mono ?_
  rintro e w1 ⟨rfl, hb1⟩
  go_wp2_with fail
  refine (table_any p w1 hp2).mono ?_
  rintro e w2 ⟨cs, rfl, hT, hb2⟩
  have hs := hT.1
  have HT := Lib.hid hT
  have hg0 := heap_alloc_new w2 (.cells zs24 24)
  have hg2 := setRow_heap (w2.alloc (.cells zs24 24)) w2.heap.size zs24 cs 24 (0, 0) hg0
  have hb3 : Grow w2 ((w2.alloc (.cells zs24 24)).setRow w2.heap.size cs) := Below.trans (grow_new _ _) (below_setRow (Below.refl w2.heap.size (w2.alloc (.cells zs24 24))) (Nat.le_refl _) cs)
  have hs2 := Lib.hid (show ((w2.alloc (.cells zs24 24)).setRow w2.heap.size cs).heap.size = w2.heap.size + 1 by simp)
  have hs24 : (Try.prog.info? 24).map (·.size) = some cs.size := by rw [hs]; exact size24
  have hz24 : zs24.size = cs.size := by rw [hs]; exact zs_size
  clear hT
  go_wp2_with (first | refine wpList_store_row rfl 24 _ _ rfl w2.heap.size cs rfl rfl 24 zs24 hg0 hs24 hz24 (tab_one HT.out) ?_ | refine wpList_tab rfl _ rfl w2.heap.size rfl cs hg2 hs ?_)
  rw [← hs2.out]
  generalize (w2.alloc (.cells zs24 24)).setRow w2.heap.size cs = w3 at *
  have hb13 : Grow w w3 := Grow.trans (Grow.trans hb1 hb2) hb3
  have HR3 := Lib.hid (HR.out.grow hb13)
  clear hg0 hs24 hz24 hz hg2 hs2 hb1 hb2 hb3
  refine (seal_one A n N cap cs (tabF p) bs w3 HT.out HN.out.symm HNN.out HC.out (by omega) HB.out HR3.out).mono ?_
  rintro e w5 ⟨gs, rfl, _, hb5⟩
  go_wp2
  go_ret
  exact ⟨rfl, hb13.trans hb5⟩

set_option maxRecDepth 10000 in
set_option maxHeartbeats 2000000 in
theorem bursts_mask (A : Option Addr) (cap n N : Nat) (bs : List Int) (p : Nat) (k m : Int) (w : World) (hn : bs.length = n) (hN : N = n + 4) (hl : n ≤ 200000000000000) (hp2 : p < 4294967296) (hc : A = none → cap = 0) (hb : Byt bs) (hr : Nums .u8 w w.heap.size A bs) (d1 : decide ((1000 : Int) < (n : Int)) = false) (d2 : decide ((p : Int) < 2147483648) = false) (d3 : (m == 0) = true) : Calls Try.prog 5 #[.slice A n cap, .int .u32 p, .int .i64 k, .int .u32 m] w (Fine w) := by
  have HNN := Lib.hid hN
  have HN := Lib.hid hn
  have HC := Lib.hid hc
  have HR := Lib.hid hr
  have HB := Lib.hid hb
  clear hr hn hb hN hc
  have d5 : decide ((N : Int) < 4) = false := by simp; have := HNN.out; omega
  have d7 : decide ((4 : Int) ≤ (N : Int)) = true := by simp; have := HNN.out; omega
  have hNl : N ≤ 200000000000004 := by have := HNN.out; omega
  have hz := zero24
  go_enter Try.func5, Try.ntmps5
  go_wp2_with fail
  refine (small_any w).mono ?_
  rintro e w1 ⟨rfl, hb1⟩
  go_wp2_with fail
  refine (table_any p w1 hp2).mono ?_
  rintro e w2 ⟨cs, rfl, hT, hb2⟩
  have hs := hT.1
  have HT := Lib.hid hT
  have hg0 := heap_alloc_new w2 (.cells zs24 24)
  have hg2 := setRow_heap (w2.alloc (.cells zs24 24)) w2.heap.size zs24 cs 24 (0, 0) hg0
  have hb3 : Grow w2 ((w2.alloc (.cells zs24 24)).setRow w2.heap.size cs) := Below.trans (grow_new _ _) (below_setRow (Below.refl w2.heap.size (w2.alloc (.cells zs24 24))) (Nat.le_refl _) cs)
  have hs2 := Lib.hid (show ((w2.alloc (.cells zs24 24)).setRow w2.heap.size cs).heap.size = w2.heap.size + 1 by simp)
  have hs24 : (Try.prog.info? 24).map (·.size) = some cs.size := by rw [hs]; exact size24
  have hz24 : zs24.size = cs.size := by rw [hs]; exact zs_size
  clear hT
  go_wp2_with (first | refine wpList_store_row rfl 24 _ _ rfl w2.heap.size cs rfl rfl 24 zs24 hg0 hs24 hz24 (tab_one HT.out) ?_ | refine wpList_tab rfl _ rfl w2.heap.size rfl cs hg2 hs ?_)
  rw [← hs2.out]
  generalize (w2.alloc (.cells zs24 24)).setRow w2.heap.size cs = w3 at *
  have hb13 : Grow w w3 := Grow.trans (Grow.trans hb1 hb2) hb3
  have HR3 := Lib.hid (HR.out.grow hb13)
  clear hg0 hs24 hz24 hz hg2 hs2 hb1 hb2 hb3
  refine (seal_one A n N cap cs (tabF p) bs w3 HT.out HN.out.symm HNN.out HC.out (by omega) HB.out HR3.out).mono ?_
  rintro e w5 ⟨gs, rfl, _, hb5⟩
  go_wp2
  go_ret
  exact ⟨rfl, hb13.trans hb5⟩

set_option maxRecDepth 10000 in
set_option maxHeartbeats 2000000 in
theorem bursts_neg (A : Option Addr) (cap n N : Nat) (bs : List Int) (p : Nat) (k m : Int) (w : World) (hn : bs.length = n) (hN : N = n + 4) (hl : n ≤ 200000000000000) (hp2 : p < 4294967296) (hc : A = none → cap = 0) (hb : Byt bs) (hr : Nums .u8 w w.heap.size A bs) (d1 : decide ((1000 : Int) < (n : Int)) = false) (d2 : decide ((p : Int) < 2147483648) = false) (d3 : (m == 0) = false) (d4 : decide (k < 0) = true) : Calls Try.prog 5 #[.slice A n cap, .int .u32 p, .int .i64 k, .int .u32 m] w (Fine w) := by
  have HNN := Lib.hid hN
  have HN := Lib.hid hn
  have HC := Lib.hid hc
  have HR := Lib.hid hr
  have HB := Lib.hid hb
  clear hr hn hb hN hc
  have d5 : decide ((N : Int) < 4) = false := by simp; have := HNN.out; omega
  have d7 : decide ((4 : Int) ≤ (N : Int)) = true := by simp; have := HNN.out; omega
  have hNl : N ≤ 200000000000004 := by have := HNN.out; omega
  have hz := zero24
  go_enter Try.func5, Try.ntmps5
  go_wp2_with fail
  refine (small_any w).mono ?_
  rintro e w1 ⟨rfl, hb1⟩
  go_wp2_with fail
  refine (table_any p w1 hp2).mono ?_
  rintro e w2 ⟨cs, rfl, hT, hb2⟩
  have hs := hT.1
  have HT := Lib.hid hT
  have hg0 := heap_alloc_new w2 (.cells zs24 24)
  have hg2 := setRow_heap (w2.alloc (.cells zs24 24)) w2.heap.size zs24 cs 24 (0, 0) hg0
  have hb3 : Grow w2 ((w2.alloc (.cells zs24 24)).setRow w2.heap.size cs) := Below.trans (grow_new _ _) (below_setRow (Below.refl w2.heap.size (w2.alloc (.cells zs24 24))) (Nat.le_refl _) cs)
  have hs2 := Lib.hid (show ((w2.alloc (.cells zs24 24)).setRow w2.heap.size cs).heap.size = w2.heap.size + 1 by simp)
  have hs24 : (Try.prog.info? 24).map (·.size) = some cs.size := by rw [hs]; exact size24
  have hz24 : zs24.size = cs.size := by rw [hs]; exact zs_size
  clear hT
  go_wp2_with (first | refine wpList_store_row rfl 24 _ _ rfl w2.heap.size cs rfl rfl 24 zs24 hg0 hs24 hz24 (tab_one HT.out) ?_ | refine wpList_tab rfl _ rfl w2.heap.size rfl cs hg2 hs ?_)
  rw [← hs2.out]
  generalize (w2.alloc (.cells zs24 24)).setRow w2.heap.size cs = w3 at *
  have hb13 : Grow w w3 := Grow.trans (Grow.trans hb1 hb2) hb3
  have HR3 := Lib.hid (HR.out.grow hb13)
  clear hg0 hs24 hz24 hz hg2 hs2 hb1 hb2 hb3
  refine (seal_one A n N cap cs (tabF p) bs w3 HT.out HN.out.symm HNN.out HC.out (by omega) HB.out HR3.out).mono ?_
  rintro e w5 ⟨gs, rfl, _, hb5⟩
  go_wp2
  go_ret
  exact ⟨rfl, hb13.trans hb5⟩

set_option maxRecDepth 10000 in
set_option maxHeartbeats 2000000 in
theorem bursts_far (A : Option Addr) (cap n N : Nat) (bs : List Int) (p : Nat) (k m : Int) (w : World) (hn : bs.length = n) (hN : N = n + 4) (hl : n ≤ 200000000000000) (hp2 : p < 4294967296) (hc : A = none → cap = 0) (hb : Byt bs) (hr : Nums .u8 w w.heap.size A bs) (hl2 : n ≤ 1000) (d1 : decide ((1000 : Int) < (n : Int)) = false) (d2 : decide ((p : Int) < 2147483648) = false) (d3 : (m == 0) = false) (d4 : decide (k < 0) = false) (d6 : decide (8 * (N : Int) - 32 < k) = true) : Calls Try.prog 5 #[.slice A n cap, .int .u32 p, .int .i64 k, .int .u32 m] w (Fine w) := by
  have HNN := Lib.hid hN
  have HN := Lib.hid hn
  have HC := Lib.hid hc
  have HR := Lib.hid hr
  have HB := Lib.hid hb
  clear hr hn hb hN hc
  have d5 : decide ((N : Int) < 4) = false := by simp; have := HNN.out; omega
  have d7 : decide ((4 : Int) ≤ (N : Int)) = true := by simp; have := HNN.out; omega
  have hNl : N ≤ 1004 := by have := HNN.out; omega
  have hz := zero24
  go_enter Try.func5, Try.ntmps5
  go_wp2_with fail
  refine (small_any w).mono ?_
  rintro e w1 ⟨rfl, hb1⟩
  go_wp2_with fail
  refine (table_any p w1 hp2).mono ?_
  rintro e w2 ⟨cs, rfl, hT, hb2⟩
  have hs := hT.1
  have HT := Lib.hid hT
  have hg0 := heap_alloc_new w2 (.cells zs24 24)
  have hg2 := setRow_heap (w2.alloc (.cells zs24 24)) w2.heap.size zs24 cs 24 (0, 0) hg0
  have hb3 : Grow w2 ((w2.alloc (.cells zs24 24)).setRow w2.heap.size cs) := Below.trans (grow_new _ _) (below_setRow (Below.refl w2.heap.size (w2.alloc (.cells zs24 24))) (Nat.le_refl _) cs)
  have hs2 := Lib.hid (show ((w2.alloc (.cells zs24 24)).setRow w2.heap.size cs).heap.size = w2.heap.size + 1 by simp)
  have hs24 : (Try.prog.info? 24).map (·.size) = some cs.size := by rw [hs]; exact size24
  have hz24 : zs24.size = cs.size := by rw [hs]; exact zs_size
  clear hT
  go_wp2_with (first | refine wpList_store_row rfl 24 _ _ rfl w2.heap.size cs rfl rfl 24 zs24 hg0 hs24 hz24 (tab_one HT.out) ?_ | refine wpList_tab rfl _ rfl w2.heap.size rfl cs hg2 hs ?_)
  rw [← hs2.out]
  generalize (w2.alloc (.cells zs24 24)).setRow w2.heap.size cs = w3 at *
  have hb13 : Grow w w3 := Grow.trans (Grow.trans hb1 hb2) hb3
  have HR3 := Lib.hid (HR.out.grow hb13)
  clear hg0 hs24 hz24 hz hg2 hs2 hb1 hb2 hb3
  refine (seal_one A n N cap cs (tabF p) bs w3 HT.out HN.out.symm HNN.out HC.out (by omega) HB.out HR3.out).mono ?_
  rintro e w5 ⟨gs, rfl, _, hb5⟩
  go_wp2
  go_ret
  exact ⟨rfl, hb13.trans hb5⟩

theorem bursts_walk (A : Option Addr) (cap n : Nat) (bs : List Int) (p k m : Int) (w : World) (hn : bs.length = n) (hl : n ≤ 200000000000000) (hp : 0 ≤ p ∧ p ≤ 4294967295) (hm : 0 ≤ m ∧ m ≤ 4294967295)
    (hc : A = none → cap = 0) (hb : Byt bs) (hr : Nums .u8 w w.heap.size A bs) : Calls Try.prog 5 #[.slice A n cap, .int .u32 p, .int .i64 k, .int .u32 m] w (Fine w) := by
  obtain ⟨P, rfl⟩ := Int.eq_ofNat_of_zero_le hp.1
  obtain ⟨N, hN⟩ : ∃ N, N = n + 4 := ⟨_, rfl⟩
  have hp2 : P < 4294967296 := by omega
  by_cases h1 : n ≤ 1000
  · have d1 : decide ((1000 : Int) < (n : Int)) = false := by simp; omega
    by_cases h2 : 2147483648 ≤ P
    · have d2 : decide ((P : Int) < 2147483648) = false := by simp; omega
      by_cases h3 : m = 0
      · exact bursts_mask A cap n N bs P k m w hn hN hl hp2 hc hb hr d1 d2 (by rw [h3]; rfl)
      · have d3 : (m == 0) = false := by rw [beq_eq_false_iff_ne]; exact h3
        by_cases h4 : k < 0
        · exact bursts_neg A cap n N bs P k m w hn hN hl hp2 hc hb hr d1 d2 d3 (by simpa using h4)
        · by_cases h5 : k ≤ 8 * (N : Int) - 32
          · obtain ⟨M, rfl⟩ := Int.eq_ofNat_of_zero_le hm.1
            obtain ⟨K, rfl⟩ := Int.eq_ofNat_of_zero_le (show 0 ≤ k by omega)
            exact bursts_yes A cap n N bs (sealN (tabF P) bs) P K M w hn hN rfl h1 h2 hp2 (by omega) (by omega) (by omega) hc hb hr
          · exact bursts_far A cap n N bs P k m w hn hN hl hp2 hc hb hr h1 d1 d2 d3 (by simpa using h4) (by simp; omega)
    · exact bursts_poly A cap n N bs P k m w hn hN hl hp2 hc hb hr d1 (by simp; omega)
  · exact bursts_len A cap n N bs P k m w hn hN hl hp2 hc hb hr (by simp; omega)
end Go.Proofs.Ytbpdjohbbhblcaa
