/-
  What the document's Same comes to, called with two rows of the same numbers.
-/
import Derived.Test.YthmhpjjpjgmdaaaDoorReads
import Derived.Test.YthmhpjjpjgmdaaaDoorTexts
import Derived.BigRegion
import Derived.Deep.LoopGhost
namespace Go.Proofs.YthmhpjjpjgmdaaaDoor
open Go.RowKit Go.Lib
set_option linter.unusedSimpArgs false
set_option linter.unusedVariables false

def Fine (w : World) (e : Ending) (w' : World) : Prop := e = .returned (.bool true) ∧ Grow w w'

set_option maxHeartbeats 800000 in
theorem same_eq (A A' : Option Addr) (n cap cap' : Nat) (xs : List Int) (w : World) (hn : xs.length = n) (hl : n ≤ 1000000) (hr : Nums .i64 w w.heap.size A xs) (hr' : Nums .i64 w w.heap.size A' xs) :
    Calls Tryd.prog 13 #[.slice A n cap, .slice A' n cap'] w (Fine w) := by
  have HR := Lib.hid hr
  have HR' := Lib.hid hr'
  have HN := Lib.hid hn
  clear hr hr' hn
  have hne : (((n : Nat) : Int) != ((n : Nat) : Int)) = false := by simp
  go_enter Tryd.func13, Tryd.ntmps13
  go_wp2
  go_loopg [5] n (fun g i wr => ∃ k : Nat, k ≤ n ∧ g = n - k ∧ i = .int .i64 k ∧ Hid (Grow w wr))
  case atStart => exact ⟨0, Nat.zero_le _, rfl, rfl, Lib.hid (Grow.refl _)⟩
  case round =>
    obtain ⟨k, hk, rfl, rfl, HG⟩ := hrel
    by_cases hlt : k < n
    · obtain ⟨b, off, rfl, hb, hc⟩ := HR.out.grow HG.out (by rw [HN.out]; omega)
      obtain ⟨b', off', rfl, hb', hc'⟩ := HR'.out.grow HG.out (by rw [HN.out]; omega)
      have h1 := hc k (by rw [HN.out]; exact hlt)
      have h2 := hc' k (by rw [HN.out]; exact hlt)
      clear hc hc'
      generalize xs.getD k 0 = x at h1 h2
      go_wp2
      go_quiet (fail)
      go_wp2
      go_roundg (n - (k + 1))
      case rel => exact ⟨k + 1, by omega, rfl, by go_num, Lib.hid (HG.out.drewN _)⟩
      case measure => omega
    · go_wp2
      go_ret
      exact ⟨rfl, HG.out⟩

end Go.Proofs.YthmhpjjpjgmdaaaDoor
