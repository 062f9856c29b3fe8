/-
  What header.words, arguments and guess come to, called with any text. Nothing is claimed here by itself.
-/
import Derived.Test.YtcnijmmpkahoaaaDoorCutsP
namespace Go.Proofs.YtcnijmmpkahoaaaDoor
open Go.RowKit Go.Lib
set_option linter.unusedSimpArgs false
set_option linter.unusedVariables false
set_option maxRecDepth 10000

def Trio (a b c : List UInt8) (w : World) (e : Ending) (w' : World) : Prop := e = .returned (.tuple #[.string ⟨a.toArray⟩, .string ⟨b.toArray⟩, .string ⟨c.toArray⟩]) ∧ Grow w w'
/-- a cut, its answer named, its pieces no longer -/
theorem cut_named (s sep : List UInt8) : ∃ a b v, cut s sep = (a, b, v) ∧ a.length ≤ s.length ∧ b.length ≤ s.length := by
  obtain ⟨h1, h2⟩ := cut_len s sep
  exact ⟨_, _, _, rfl, h1, h2⟩
set_option maxHeartbeats 1600000 in
theorem words_any (s : List UInt8) (w : World) (hs : s.length ≤ 1100000) (hm : MaxAt w) : Calls Tryd.prog 70 #[.string ⟨s.toArray⟩] w (Trio (wordsD s).1 (wordsD s).2.1 (wordsD s).2.2 w) := by
  obtain ⟨a, b, v, h1, h2, h3⟩ := cut_named s [32]
  obtain ⟨c, d, u, k1, k2, k3⟩ := cut_named b [32]
  have HF := Lib.hid (show wordsD s = (a, c, d) by unfold wordsD; rw [h1]; show (a, (cut b [32]).1, (cut b [32]).2.1) = _; rw [k1])
  have HC1 := Lib.hid (cut_says h1 w hs hm)
  have HC2 := Lib.hid (fun W hW => cut_says k1 W (by omega) (hm.grow hW))
  rw [HF.out]
  clear hs hm h1 h2 h3 k1 k2 k3 HF
  go_enter Tryd.func70, Tryd.ntmps70
  go_wp2_with fail
  refine (HC1.out).mono ?_
  rintro e w1 ⟨rfl, hg⟩
  have HG1 := Lib.hid hg
  clear hg HC1
  go_wp2_with fail
  refine (HC2.out w1 HG1.out).mono ?_
  rintro e w2 ⟨rfl, hg⟩
  have HG2 := Lib.hid (HG1.out.trans hg)
  clear hg HC2
  go_wp2
  go_ret3
  exact ⟨rfl, HG2.out⟩
theorem words_len (s : List UInt8) : (wordsD s).1.length ≤ s.length ∧ (wordsD s).2.1.length ≤ s.length ∧ (wordsD s).2.2.length ≤ s.length := by
  obtain ⟨a, b, v, h1, h2, h3⟩ := cut_named s [32]
  obtain ⟨c, d, u, k1, k2, k3⟩ := cut_named b [32]
  have e : wordsD s = (a, c, d) := by unfold wordsD; rw [h1]; show (a, (cut b [32]).1, (cut b [32]).2.1) = _; rw [k1]
  rw [e]
  exact ⟨h2, Nat.le_trans k2 h3, Nat.le_trans k3 h3⟩
theorem args_len (s : List UInt8) : (argsD s).1.length ≤ s.length ∧ (argsD s).2.1.length ≤ s.length ∧ (argsD s).2.2.length ≤ s.length := by
  obtain ⟨h1, h2, h3⟩ := words_len s
  unfold argsD
  split
  · exact ⟨Nat.zero_le _, h1, h2⟩
  · exact ⟨h1, h2, h3⟩
set_option maxHeartbeats 1600000 in
theorem args_any (s : List UInt8) (w : World) (hs : s.length ≤ 1100000) (hm : MaxAt w) : Calls Tryd.prog 68 #[.string ⟨s.toArray⟩] w (Trio (argsD s).1 (argsD s).2.1 (argsD s).2.2 w) := by
  have hw := words_any s w hs hm
  obtain ⟨a, b, c, h1⟩ : ∃ a b c, wordsD s = (a, b, c) := ⟨_, _, _, rfl⟩
  rw [h1] at hw
  have HW := Lib.hid hw
  clear hw hs hm
  by_cases h0 : c = []
  · have HF := Lib.hid (show argsD s = ([], a, b) by unfold argsD; rw [h1, if_pos h0])
    rw [HF.out]
    subst h0
    clear h1 HF
    go_enter Tryd.func68, Tryd.ntmps68
    go_wp2_with fail
    refine (HW.out).mono ?_
    rintro e w1 ⟨rfl, hg⟩
    have HG1 := Lib.hid hg
    clear hg HW
    go_wp2
    go_ret3
    exact ⟨rfl, HG1.out⟩
  · have HF := Lib.hid (show argsD s = (a, b, c) by unfold argsD; rw [h1, if_neg h0])
    have hc : (c == []) = false := beq_eq_false_iff_ne.2 h0
    rw [HF.out]
    clear h0 h1 HF
    go_enter Tryd.func68, Tryd.ntmps68
    go_wp2_with fail
    refine (HW.out).mono ?_
    rintro e w1 ⟨rfl, hg⟩
    have HG1 := Lib.hid hg
    clear hg HW
    go_wp2
    go_ret3
    exact ⟨rfl, HG1.out⟩
end Go.Proofs.YtcnijmmpkahoaaaDoor
