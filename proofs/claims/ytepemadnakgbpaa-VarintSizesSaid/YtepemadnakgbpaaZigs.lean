/-
  The laws VarintZigs and VarintSizes at every input.
-/
import Derived.Test.YtepemadnakgbpaaSmall
namespace Go.Proofs.Ytepemadnakgbpaa
open Go.RowKit

set_option maxRecDepth 10000 in
set_option maxHeartbeats 1600000 in
theorem zigs_walk (n u : Int) (w : World) (h0 : -9223372036854775808 ≤ n) (h1 : n < 9223372036854775808) (h2 : 0 ≤ u) (h3 : u < 18446744073709551616) :
    Calls Try.prog 7 #[.int .i64 n, .int .u64 u] w (Fine w) := by
  have hz := zig_lt h0 h1
  have hzz := zag_zig n
  have hzu := zig_zag h2
  have ha := zag_lt h2 h3
  have hzn : (0 ≤ n → zigN n = 2 * n) ∧ (n < 0 → zigN n = -2 * n - 1) := by unfold zigN; constructor <;> intro h <;> split <;> omega
  go_enter Try.func7, Try.ntmps7
  go_wp2_with fail
  refine (small_any w).mono ?_
  rintro e w1 ⟨rfl, hb1⟩
  have HZ1 := Lib.hid (zig_any n w1 h0 h1)
  obtain ⟨z, hzq⟩ : ∃ z, zigN n = z := ⟨_, rfl⟩
  rw [hzq] at hz hzz hzn HZ1
  have HZ2 := Lib.hid (zag_any z w1 hz.1 hz.2)
  have HZ3 := Lib.hid (zag_any u w1 h2 h3)
  have HZ4 := Lib.hid (zig_any (zagN u) w1 ha.1 ha.2)
  rw [hzz] at HZ2
  rw [hzu] at HZ4
  clear hzq hzz hzu
  generalize zagN u = a at *
  by_cases hn : n < 0
  · have hzv := hzn.2 hn
    have hw1 : IntKind.u64.wrap (-n - 1) = -n - 1 := by rw [IntKind.wrap_u64]; omega
    clear hzn
    subst hzv
    go_wp2_with fail
    refine (HZ1.out).mono ?_
    rintro e w' ⟨rfl, rfl⟩
    go_wp2_with fail
    refine (HZ2.out).mono ?_
    rintro e w' ⟨rfl, rfl⟩
    go_wp2_with fail
    refine (HZ3.out).mono ?_
    rintro e w' ⟨rfl, rfl⟩
    go_wp2_with fail
    refine (HZ4.out).mono ?_
    rintro e w' ⟨rfl, rfl⟩
    go_wp2
    go_ret
    exact ⟨rfl, hb1⟩
  · have hzv := hzn.1 (by omega)
    clear hzn
    subst hzv
    go_wp2_with fail
    refine (HZ1.out).mono ?_
    rintro e w' ⟨rfl, rfl⟩
    go_wp2_with fail
    refine (HZ2.out).mono ?_
    rintro e w' ⟨rfl, rfl⟩
    go_wp2_with fail
    refine (HZ3.out).mono ?_
    rintro e w' ⟨rfl, rfl⟩
    go_wp2_with fail
    refine (HZ4.out).mono ?_
    rintro e w' ⟨rfl, rfl⟩
    go_wp2
    go_ret
    exact ⟨rfl, hb1⟩
set_option maxRecDepth 10000 in
set_option maxHeartbeats 1600000 in
theorem sizes_walk (n : Nat) (w : World) (hn : n < 18446744073709551616) : Calls Try.prog 8 #[.int .u64 n] w (Fine w) := by
  have hten := digs_ten hn
  have hpos := digs_pos n
  go_enter Try.func8, Try.ntmps8
  go_wp2_with fail
  refine (small_any w).mono ?_
  rintro e w1 ⟨rfl, hb1⟩
  have HS1 := Lib.hid (size_any n w1 hn)
  have HP := Lib.hid (put_any none (some ⟨w1.heap.size, 0, none⟩) 0 1 0 1 [] [(n : Int)] _ rfl rfl (by decide) (by decide) (by intro x hx; simp at hx; omega) (by simp) Nums.none_ (lit_nums w1 .u64 25 [(n : Int)]))
  rw [flat_one, List.nil_append, Int.toNat_natCast] at HP
  by_cases h : n < 128
  · have HL := Lib.hid (show (digs n).length = 1 by rw [digs_lo h]; rfl)
    go_wp2_with fail
    refine (HS1.out).mono ?_
    rintro e w' ⟨rfl, rfl⟩
    rw [HL.out]
    go_wp2_with fail
    refine (HP.out).mono ?_
    rintro e w2 ⟨g, rfl, hrow, hb2⟩
    rw [HL.out]
    clear hten hpos hrow
    go_wp2
    go_ret
    exact ⟨rfl, hb1.trans (grow_alloc' hb2)⟩
  · have hd := digs_hi (show 128 ≤ n by omega)
    have HL := Lib.hid (show (digs n).length = (digs (n / 128)).length + 1 by rw [hd]; rfl)
    obtain ⟨d, hdq⟩ : ∃ d, (digs (n / 128)).length = d := ⟨_, rfl⟩
    rw [hdq] at HL
    rw [HL.out] at hten hpos
    have hS2 : ∀ W, Calls Try.prog 16 #[.int .u64 ((n : Int) / 128)] W (Num .i64 d W) := fun W => by
      have h := size_any (n / 128) W (by omega)
      rw [hdq] at h
      rw [show ((n : Int) / 128) = ((n / 128 : Nat) : Int) by simp]
      exact h
    have HS2 := Lib.hid hS2
    clear hS2 hd hdq
    go_wp2_with fail
    refine (HS1.out).mono ?_
    rintro e w' ⟨rfl, rfl⟩
    rw [HL.out]
    go_wp2_with fail
    refine (HP.out).mono ?_
    rintro e w2 ⟨g, rfl, hrow, hb2⟩
    rw [HL.out]
    clear hrow
    go_wp2_with fail
    refine (HS2.out _).mono ?_
    rintro e w' ⟨rfl, rfl⟩
    go_wp2
    go_ret
    exact ⟨rfl, hb1.trans (grow_alloc' hb2)⟩
end Go.Proofs.Ytepemadnakgbpaa
