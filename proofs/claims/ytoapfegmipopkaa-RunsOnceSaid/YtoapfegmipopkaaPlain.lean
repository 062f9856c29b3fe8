/-
  What varint.Size comes to.
-/
import Derived.Test.YtoapfegmipopkaaRows
import Derived.Test.YtoapfegmipopkaaWords
import Derived.Outline
import Derived.Lib.Hide
import Derived.BigQuiet
import Derived.Deep.QuietTactic
import Derived.RegionTactic
import Derived.LoopTactic
import Derived.Laws.Shifts
import Derived.Test.YtoapfegmipopkaaGrow
import Derived.Test.YtoapfegmipopkaaMath
namespace Go.Proofs.Ytoapfegmipopkaa
open Go.RowKit

set_option maxRecDepth 10000 in
set_option maxHeartbeats 400000 in
theorem size_any (n : Nat) (w : World) (hn : n < 18446744073709551616) :
    Calls Try.prog 25 #[.int .u64 n] w fun e w' => e = .returned (.int .i64 ((digs n).length : Nat)) ∧ w' = w := by
  have hten := digs_ten hn
  go_enter Try.func25, Try.ntmps25
  go_wp2
  go_loopw [0, 3] (fun v k wr => ∃ x j : Nat, v = .int .u64 x ∧ k = .int .i64 (j + 1 : Nat) ∧ x < 18446744073709551616 ∧ j + (digs x).length = (digs n).length ∧ wr = w)
    (fun v _ _ => (intOf v).toNat)
  case atStart => exact ⟨n, 0, rfl, rfl, hn, by omega, rfl⟩
  case round =>
    obtain ⟨x, j, rfl, rfl, hx, hj, rfl⟩ := hrel
    by_cases hlt : 128 ≤ x
    · have hd := digs_hi hlt
      have hl : (digs x).length = (digs (x / 128)).length + 1 := by rw [hd, List.length_cons]
      have hp := digs_pos (x / 128)
      have HJ := Lib.hid hj
      have HL := Lib.hid hl
      clear hd
      have hjb : j < 10 := by omega
      clear hj hl hp hten
      go_wp2
      go_roundw
      case rel => exact ⟨x / 128, j + 1, by simp, by simp, by omega, by have := HJ.out; have := HL.out; omega, trivial⟩
      case measure => simp [intOf]; omega
    · have hd := digs_lo (show x < 128 by omega)
      have hl : (digs x).length = 1 := by rw [hd]; rfl
      have HE := Lib.hid (show (digs n).length = j + 1 by omega)
      clear hd hj hl hten
      go_wp2
      go_ret
      exact ⟨by rw [HE.out]; simp, rfl⟩

theorem i64_turn (n : Int) (h0 : -9223372036854775808 ≤ n) (h1 : n < 9223372036854775808) : bits .xor .i64 (-1) n = -1 - n := by
  show IntKind.i64.wrap ((BitVec.ofInt 64 (-1) ^^^ BitVec.ofInt 64 n).toNat : Int) = _
  have e : BitVec.ofInt 64 (-1) = BitVec.allOnes 64 := by decide
  rw [e, BitVec.allOnes_xor, BitVec.toNat_not, BitVec.toNat_ofInt, IntKind.wrap_i64]
  omega

def zigN (n : Int) : Int := if n < 0 then -2 * n - 1 else 2 * n
def zagN (u : Int) : Int := if u % 2 = 1 then -(u / 2) - 1 else u / 2
theorem zig_lt {n : Int} (h0 : -9223372036854775808 ≤ n) (h1 : n < 9223372036854775808) : 0 ≤ zigN n ∧ zigN n < 18446744073709551616 := by unfold zigN; split <;> omega
theorem zag_lt {u : Int} (h0 : 0 ≤ u) (h1 : u < 18446744073709551616) : -9223372036854775808 ≤ zagN u ∧ zagN u < 9223372036854775808 := by unfold zagN; split <;> omega
theorem zag_zig (n : Int) : zagN (zigN n) = n := by unfold zagN zigN; split <;> split <;> omega
theorem zig_zag {u : Int} (h0 : 0 ≤ u) : zigN (zagN u) = u := by unfold zagN zigN; split <;> split <;> omega
end Go.Proofs.Ytoapfegmipopkaa
