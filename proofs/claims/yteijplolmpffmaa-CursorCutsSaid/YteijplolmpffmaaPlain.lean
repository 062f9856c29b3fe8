/-
  What varint.Size, varint.Zig and varint.Zag come to, and the document's own Zag.
-/
import Derived.Test.YteijplolmpffmaaRows
import Derived.Test.YteijplolmpffmaaWords
import Derived.Outline
import Derived.Lib.Hide
import Derived.BigQuiet
import Derived.Deep.QuietTactic
import Derived.RegionTactic
import Derived.LoopTactic
import Derived.Laws.Shifts
import Derived.Test.YteijplolmpffmaaGrow
import Derived.Test.YteijplolmpffmaaMath
namespace Go.Proofs.Yteijplolmpffmaa
open Go.RowKit

set_option maxRecDepth 10000 in
set_option maxHeartbeats 400000 in
theorem size_any (n : Nat) (w : World) (hn : n < 18446744073709551616) :
    Calls Try.prog 37 #[.int .u64 n] w fun e w' => e = .returned (.int .i64 ((digs n).length : Nat)) ∧ w' = w := by
  have hten := digs_ten hn
  go_enter Try.func37, Try.ntmps37
  go_wp2
  go_loopw [0, 3] (fun v k wr => ∃ x j : Nat, v = .int .u64 x ∧ k = .int .i64 (j + 1 : Nat) ∧ x < 18446744073709551616 ∧ j + (digs x).length = (digs n).length ∧ wr = w)
    (fun v _ _ => (intOf v).toNat)
  case atStart => exact ⟨n, 0, rfl, rfl, hn, by omega, rfl⟩
  case round =>
    obtain ⟨x, j, rfl, rfl, hx, hj, rfl⟩ := hrel
    by_cases hlt : 128 ≤ x
    · have hd := digs_hi hlt
      have hl : (digs x).length = (digs (x / 128)).length + 1 := by rw [hd, List.length_cons]
      have hp := digs_pos (x / 128)
      have HJ := Lib.hid hj
      have HL := Lib.hid hl
      clear hd
      have hjb : j < 10 := by omega
      clear hj hl hp hten
      go_wp2
      go_roundw
      case rel => exact ⟨x / 128, j + 1, by simp, by simp, by omega, by have := HJ.out; have := HL.out; omega, trivial⟩
      case measure => simp [intOf]; omega
    · have hd := digs_lo (show x < 128 by omega)
      have hl : (digs x).length = 1 := by rw [hd]; rfl
      have HE := Lib.hid (show (digs n).length = j + 1 by omega)
      clear hd hj hl hten
      go_wp2
      go_ret
      exact ⟨by rw [HE.out]; simp, rfl⟩

theorem i64_turn (n : Int) (h0 : -9223372036854775808 ≤ n) (h1 : n < 9223372036854775808) : bits .xor .i64 (-1) n = -1 - n := by
  show IntKind.i64.wrap ((BitVec.ofInt 64 (-1) ^^^ BitVec.ofInt 64 n).toNat : Int) = _
  have e : BitVec.ofInt 64 (-1) = BitVec.allOnes 64 := by decide
  rw [e, BitVec.allOnes_xor, BitVec.toNat_not, BitVec.toNat_ofInt, IntKind.wrap_i64]
  omega

def zigN (n : Int) : Int := if n < 0 then -2 * n - 1 else 2 * n
def zagN (u : Int) : Int := if u % 2 = 1 then -(u / 2) - 1 else u / 2
theorem zig_lt {n : Int} (h0 : -9223372036854775808 ≤ n) (h1 : n < 9223372036854775808) : 0 ≤ zigN n ∧ zigN n < 18446744073709551616 := by unfold zigN; split <;> omega
theorem zag_lt {u : Int} (h0 : 0 ≤ u) (h1 : u < 18446744073709551616) : -9223372036854775808 ≤ zagN u ∧ zagN u < 9223372036854775808 := by unfold zagN; split <;> omega
theorem zag_zig (n : Int) : zagN (zigN n) = n := by unfold zagN zigN; split <;> split <;> omega
theorem zig_zag {u : Int} (h0 : 0 ≤ u) : zigN (zagN u) = u := by unfold zagN zigN; split <;> split <;> omega

set_option maxRecDepth 10000 in
set_option maxHeartbeats 400000 in
theorem zig_any (n : Int) (w : World) (h0 : -9223372036854775808 ≤ n) (h1 : n < 9223372036854775808) :
    Calls Try.prog 30 #[.int .i64 n] w fun e w' => e = .returned (.int .u64 (zigN n)) ∧ w' = w := by
  by_cases h : n < 0
  · have hz : zigN n = -2 * n - 1 := by unfold zigN; rw [if_pos h]
    have hor : bits .or .u64 ((-1 - n) * 2) 1 = -2 * n - 1 := by
      obtain ⟨m, hm⟩ := Int.eq_ofNat_of_zero_le (show 0 ≤ -1 - n by omega)
      rw [hm, show ((m : Int) * 2) = ((m * 2 : Nat) : Int) by simp, show (1 : Int) = ((1 : Nat) : Int) from rfl, u64_or_nat _ _ (by omega) (by omega)]
      have := or_add 1 m 1 (by decide)
      rw [Nat.or_comm, show m * 2 = m * 2 ^ 1 from rfl, this]
      omega
    have HZ := Lib.hid hz
    have hnot := i64_turn n h0 h1
    have hw1 : IntKind.u64.wrap (-1 - n) = -1 - n := by rw [IntKind.wrap_u64]; omega
    have hw2 : IntKind.u64.wrap ((-1 - n) * 2) = (-1 - n) * 2 := by rw [IntKind.wrap_u64]; omega
    clear hz
    go_enter Try.func30, Try.ntmps30
    go_wp2
    go_ret
    exact ⟨by rw [HZ.out]; rfl, rfl⟩
  · have hz : zigN n = 2 * n := by unfold zigN; rw [if_neg h]
    have HZ := Lib.hid hz
    clear hz
    go_enter Try.func30, Try.ntmps30
    go_wp2
    go_ret
    exact ⟨by rw [HZ.out]; simp; omega, rfl⟩

set_option maxRecDepth 10000 in
set_option maxHeartbeats 400000 in
theorem zag_any (u : Int) (w : World) (h0 : 0 ≤ u) (h1 : u < 18446744073709551616) :
    Calls Try.prog 35 #[.int .u64 u] w fun e w' => e = .returned (.int .i64 (zagN u)) ∧ w' = w := by
  have hand : bits .and .u64 u 1 = u % 2 := by
    obtain ⟨m, rfl⟩ := Int.eq_ofNat_of_zero_le h0
    rw [show (1 : Int) = ((1 : Nat) : Int) from rfl, u64_and_nat _ _ (by omega) (by omega), show m &&& 1 = m % 2 from Nat.and_two_pow_sub_one_eq_mod m 1]
    simp
  have hnot := i64_turn (u / 2) (by omega) (by omega)
  by_cases h : u % 2 = 1
  · have HZ := Lib.hid (show zagN u = -(u / 2) - 1 by unfold zagN; rw [if_pos h])
    go_enter Try.func35, Try.ntmps35
    go_wp2
    go_ret
    exact ⟨by rw [HZ.out]; simp; omega, rfl⟩
  · have HZ := Lib.hid (show zagN u = u / 2 by unfold zagN; rw [if_neg h])
    go_enter Try.func35, Try.ntmps35
    go_wp2
    go_ret
    exact ⟨by rw [HZ.out]; simp, rfl⟩

set_option maxRecDepth 10000 in
set_option maxHeartbeats 400000 in
theorem rzag_any (u : Int) (w : World) (h0 : 0 ≤ u) (h1 : u < 18446744073709551616) :
    Calls Try.prog 36 #[.int .u64 u] w fun e w' => e = .returned (.int .i64 (zagN u)) ∧ w' = w := by
  by_cases h : u % 2 = 1
  · have HZ := Lib.hid (show zagN u = -(u / 2) - 1 by unfold zagN; rw [if_pos h])
    have hne : ¬ u % 2 = 0 := by omega
    go_enter Try.func36, Try.ntmps36
    go_wp2
    go_ret
    exact ⟨by rw [HZ.out]; simp, rfl⟩
  · have HZ := Lib.hid (show zagN u = u / 2 by unfold zagN; rw [if_neg h])
    have he : u % 2 = 0 := by omega
    go_enter Try.func36, Try.ntmps36
    go_wp2
    go_ret
    exact ⟨by rw [HZ.out]; simp, rfl⟩
end Go.Proofs.Yteijplolmpffmaa
