/-
  What the document's Same comes to, called with two rows of the same numbers.
-/
import Derived.Test.YtinkpbablhbccaaUnpack
namespace Go.Proofs.Ytinkpbablhbccaa
open Go.RowKit

def SameYes (w : World) (e : Ending) (w' : World) : Prop := e = .returned (.bool true) ∧ ∃ m, w' = w.drewN m

set_option maxHeartbeats 400000 in
theorem same_eq (A A' : Option Addr) (cap cap' : Nat) (xs : List Int) (w : World) (B : Nat) (hl : xs.length ≤ 1000000) (hr : Nums .i64 w B A xs) (hr' : Nums .i64 w B A' xs) :
    Calls Try.prog 15 #[.slice A xs.length cap, .slice A' xs.length cap'] w (SameYes w) := by
  have HR := Lib.hid hr
  have HR' := Lib.hid hr'
  clear hr hr'
  have hne : ((xs.length : Int) != (xs.length : Int)) = false := by simp
  go_enter Try.func15, Try.ntmps15
  go_wp2
  go_loopw [5] (fun i wr => ∃ k m : Nat, k ≤ xs.length ∧ i = .int .i64 k ∧ wr = w.drewN m)
    (fun i _ => xs.length - (intOf i).toNat)
  case atStart => exact ⟨0, 0, Nat.zero_le _, rfl, rfl⟩
  case round =>
    obtain ⟨k, m, hk, rfl, rfl⟩ := hrel
    by_cases hlt : k < xs.length
    · obtain ⟨b, off, rfl, hb, hc⟩ := HR.out (by omega)
      obtain ⟨b', off', rfl, hb', hc'⟩ := HR'.out (by omega)
      have h1 := hc k hlt
      have h2 := hc' k hlt
      clear hc hc'
      generalize xs.getD k 0 = x at *
      go_wp2
      go_quiet (fail)
      go_wp2
      go_roundw
      case rel => exact ⟨k + 1, _, by omega, by go_num, rfl⟩
      case measure => simp [intOf]; omega
    · go_wp2
      go_ret
      exact ⟨rfl, m, rfl⟩
end Go.Proofs.Ytinkpbablhbccaa
