/-
  What the small functions of bits come to, called with anything.
-/
import Derived.Test.YtinkpbablhbccaaRows
import Derived.Test.YtinkpbablhbccaaWords
import Derived.Test.YtinkpbablhbccaaMath
import Derived.Outline
import Derived.Lib.Hide
import Derived.BigQuiet
import Derived.Deep.QuietTactic
namespace Go.Proofs.Ytinkpbablhbccaa
open Go.RowKit

/-- how many bytes n bits have, as bits.Bytes reckons it -/
def bytesI (n : Int) : Int := if n < 0 then 0 else (n + 7) / 8

theorem bytesI_nat (n : Nat) : bytesI (n : Int) = (bytesN n : Int) := by
  unfold bytesI bytesN
  rw [if_neg (by omega)]
  omega

set_option maxHeartbeats 400000 in
theorem bytes_any (n : Int) (w : World) (h0 : -9223372036854775808 ≤ n) (h1 : n ≤ 9223372036854775807) :
    Calls Try.prog 11 #[.int .i64 n] w fun e w' => e = .returned (.int .i64 (bytesI n)) ∧ w = w' := by
  by_cases hn : n < 0
  · go_enter Try.func11, Try.ntmps11
    go_wp2
    go_ret
    exact ⟨by simp [bytesI, hn], rfl⟩
  · by_cases h8 : n % 8 = 0
    · have hb : (n % 8 != 0) = false := by simp [h8]
      have hv : n / 8 = bytesI n := by unfold bytesI; rw [if_neg hn]; omega
      have HV := Lib.hid hv
      clear h8 hv
      go_enter Try.func11, Try.ntmps11
      go_wp2
      go_ret
      exact ⟨by rw [HV.out]; rfl, rfl⟩
    · have hb : (n % 8 != 0) = true := by simp [h8]
      have hv : n / 8 + 1 = bytesI n := by unfold bytesI; rw [if_neg hn]; omega
      have HV := Lib.hid hv
      clear h8 hv
      go_enter Try.func11, Try.ntmps11
      go_wp2
      go_ret
      exact ⟨by rw [HV.out]; rfl, rfl⟩

set_option maxHeartbeats 400000 in
theorem behind_any (A : Option Addr) (cap : Nat) (bs : List Int) (n : Nat) (w : World) (B : Nat) (hn : n ≤ 9223372036854775807) (hl : bs.length = bytesN n) (hr : Nums .u8 w B A bs) :
    Calls Try.prog 16 #[.slice A bs.length cap, .int .i64 n] w fun e w' => e = .returned (.bool (behind bs n)) ∧ w = w' := by
  by_cases h8 : n % 8 = 0
  · have hb : ((n : Int) % 8 != 0) = false := by simp; omega
    have hv : behind bs n = false := by simp [behind, h8]
    rw [hv]
    clear h8 hv hl
    go_enter Try.func16, Try.ntmps16
    go_wp2
    go_ret
    exact ⟨rfl, rfl⟩
  · have hb : ((n : Int) % 8 != 0) = true := by simp; omega
    have hp : 0 < bs.length := by rw [hl]; unfold bytesN; omega
    obtain ⟨b, off, rfl, _, hc⟩ := hr hp
    obtain ⟨j, hj⟩ : ∃ j, bs.length = j + 1 := ⟨bs.length - 1, by omega⟩
    have hcl := hc j (by omega)
    have hv : behind bs n = (bs.getD j 0 / 2 ^ ((n : Int) % 8).toNat != 0) := by
      have e : ((n : Int) % 8).toNat = n % 8 := by omega
      have e2 : (n % 8 != 0) = true := by simp [h8]
      rw [e]
      simp only [behind, e2, Bool.true_and]
      rw [hj]
      rfl
    have hjm : j + 1 ≤ 9223372036854775807 := by rw [← hj, hl]; unfold bytesN; omega
    rw [hv, hj]
    clear hc hv hl h8 hp hj hr
    generalize bs.getD j 0 = x at *
    go_enter Try.func16, Try.ntmps16
    go_wp2
    go_ret
    exact ⟨rfl, rfl⟩
end Go.Proofs.Ytinkpbablhbccaa
