/-
  What crc.eightSteps comes to, called with anything.
-/
import Derived.Test.YtbpdjohbbhblcaaRows
import Derived.Test.YtbpdjohbbhblcaaWords
import Derived.Test.YtbpdjohbbhblcaaMath
import Derived.Outline
import Derived.Lib.Hide
import Derived.BigQuiet
import Derived.Deep.QuietTactic
import Derived.RegionTactic
import Derived.LoopTactic
import Derived.Laws.Shifts
namespace Go.Proofs.Ytbpdjohbbhblcaa
open Go.RowKit

theorem stps_succ (p k n : Nat) : stps p (k + 1) n = stp p (stps p k n) := by
  rw [stps_add]
  rfl

theorem odd_bit (x : Nat) (hx : x < 4294967296) : bits .and .u32 (x : Int) 1 = ((x % 2 : Nat) : Int) := by
  have := u32_and_nat x 1 hx (by decide)
  rw [nat_mask1] at this
  exact this

set_option maxHeartbeats 400000 in
theorem eight_any (n p : Nat) (w : World) (hn : n < 4294967296) (hp : p < 4294967296) :
    Calls Try.prog 21 #[.int .u32 n, .int .u32 p] w fun e w' => e = .returned (.int .u32 (tabF p n : Nat)) ∧ w' = w := by
  go_enter Try.func21, Try.ntmps21
  go_wp2
  go_loopw [0, 6] (fun v i wr => ∃ k : Nat, k ≤ 8 ∧ i = .int .i64 k ∧ v = .int .u32 (stps p k n : Nat) ∧ wr = w)
    (fun _ i _ => 8 - (intOf i).toNat)
  case atStart => exact ⟨0, Nat.zero_le _, rfl, rfl, rfl⟩
  case round =>
    obtain ⟨k, hk, rfl, rfl, rfl⟩ := hrel
    by_cases hlt : k < 8
    · have hnext := stps_succ p k n
      have hx := stps_lt p k n hp hn
      generalize stps p k n = x at *
      have HX := Lib.hid hnext
      clear hnext
      have ho := odd_bit x hx
      by_cases h1 : x % 2 = 1
      · rw [h1] at ho
        have hb : (bits .and .u32 (x : Int) 1 == 1) = true := by rw [ho]; rfl
        have hxx : bits .xor .u32 ((x : Int) / 2) (p : Int) = ((x / 2 ^^^ p : Nat) : Int) := by
          have := u32_xor_nat (x / 2) p (by omega) hp
          rw [← this]
          simp
        have hv : stp p x = x / 2 ^^^ p := by unfold stp; rw [if_pos h1]
        have HV := Lib.hid hv
        clear hv ho h1
        go_wp2
        go_roundw
        case rel => exact ⟨k + 1, by omega, by go_num, by rw [HX.out, HV.out], trivial⟩
        case measure => simp [intOf]; omega
      · have h0 : x % 2 = 0 := by omega
        rw [h0] at ho
        have hb : (bits .and .u32 (x : Int) 1 == 1) = false := by rw [ho]; rfl
        have hv : stp p x = x / 2 := by unfold stp; rw [if_neg h1]
        have HV := Lib.hid hv
        clear hv ho h1 h0
        go_wp2
        go_roundw
        case rel => exact ⟨k + 1, by omega, by go_num, by rw [HX.out, HV.out]; simp, trivial⟩
        case measure => simp [intOf]; omega
    · have e : k = 8 := by omega
      subst e
      go_wp2
      go_ret
      exact ⟨rfl, rfl⟩
end Go.Proofs.Ytbpdjohbbhblcaa
