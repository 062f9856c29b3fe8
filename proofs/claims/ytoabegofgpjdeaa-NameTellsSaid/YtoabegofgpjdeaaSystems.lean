/-
  What name.System comes to, called with any text.
-/
import Derived.Test.YtoabegofgpjdeaaTakes
namespace Go.Proofs.Ytoabegofgpjdeaa
open Go.RowKit Go.Lib

theorem sys_mem {l : List UInt8} : sysD l = true ↔ l ∈ sysL := by unfold sysD; rw [List.contains_iff_mem]
theorem sys_cases {l : List UInt8} (h : sysD l = true) : l = [226, 142, 149, 67, 84] ∨ l = [226, 142, 149, 73, 79] ∨ l = [226, 142, 149, 76, 88] ∨ l = [226, 142, 149, 80, 80] ∨ l = [226, 142, 149, 80, 87] ∨ l = [226, 142, 149, 82, 76] := by
  rw [sys_mem] at h
  simpa [sysL] using h
theorem sys_no {l : List UInt8} (h0 : ¬ l = [226, 142, 149, 67, 84]) (h1 : ¬ l = [226, 142, 149, 73, 79]) (h2 : ¬ l = [226, 142, 149, 76, 88]) (h3 : ¬ l = [226, 142, 149, 80, 80]) (h4 : ¬ l = [226, 142, 149, 80, 87]) (h5 : ¬ l = [226, 142, 149, 82, 76]) : sysD l = false := by
  rw [Bool.eq_false_iff]
  intro h
  rcases sys_cases h with h | h | h | h | h | h
  · exact h0 h
  · exact h1 h
  · exact h2 h
  · exact h3 h
  · exact h4 h
  · exact h5 h

set_option maxRecDepth 10000 in
theorem system_any (l : List UInt8) (w : World) : Calls Try.prog 13 #[.string ⟨l.toArray⟩] w fun e w' => e = .returned (.bool (sysD l)) ∧ w = w' := by
  by_cases h0 : l = [226, 142, 149, 67, 84]
  · subst h0
    have HF := Lib.hid (show sysD [226, 142, 149, 67, 84] = true by decide)
    go_enter Try.func13, Try.ntmps13
    go_wp2
    go_ret
    exact ⟨by rw [HF.out]; rfl, rfl⟩
  by_cases h1 : l = [226, 142, 149, 73, 79]
  · subst h1
    clear h0
    have HF := Lib.hid (show sysD [226, 142, 149, 73, 79] = true by decide)
    go_enter Try.func13, Try.ntmps13
    go_wp2
    go_ret
    exact ⟨by rw [HF.out]; rfl, rfl⟩
  by_cases h2 : l = [226, 142, 149, 76, 88]
  · subst h2
    clear h0 h1
    have HF := Lib.hid (show sysD [226, 142, 149, 76, 88] = true by decide)
    go_enter Try.func13, Try.ntmps13
    go_wp2
    go_ret
    exact ⟨by rw [HF.out]; rfl, rfl⟩
  by_cases h3 : l = [226, 142, 149, 80, 80]
  · subst h3
    clear h0 h1 h2
    have HF := Lib.hid (show sysD [226, 142, 149, 80, 80] = true by decide)
    go_enter Try.func13, Try.ntmps13
    go_wp2
    go_ret
    exact ⟨by rw [HF.out]; rfl, rfl⟩
  by_cases h4 : l = [226, 142, 149, 80, 87]
  · subst h4
    clear h0 h1 h2 h3
    have HF := Lib.hid (show sysD [226, 142, 149, 80, 87] = true by decide)
    go_enter Try.func13, Try.ntmps13
    go_wp2
    go_ret
    exact ⟨by rw [HF.out]; rfl, rfl⟩
  by_cases h5 : l = [226, 142, 149, 82, 76]
  · subst h5
    clear h0 h1 h2 h3 h4
    have HF := Lib.hid (show sysD [226, 142, 149, 82, 76] = true by decide)
    go_enter Try.func13, Try.ntmps13
    go_wp2
    go_ret
    exact ⟨by rw [HF.out]; rfl, rfl⟩
  have HF := Lib.hid (sys_no h0 h1 h2 h3 h4 h5)
  have b0 : (l == [226, 142, 149, 67, 84]) = false := beq_eq_false_iff_ne.2 h0
  have b1 : (l == [226, 142, 149, 73, 79]) = false := beq_eq_false_iff_ne.2 h1
  have b2 : (l == [226, 142, 149, 76, 88]) = false := beq_eq_false_iff_ne.2 h2
  have b3 : (l == [226, 142, 149, 80, 80]) = false := beq_eq_false_iff_ne.2 h3
  have b4 : (l == [226, 142, 149, 80, 87]) = false := beq_eq_false_iff_ne.2 h4
  have b5 : (l == [226, 142, 149, 82, 76]) = false := beq_eq_false_iff_ne.2 h5
  clear h0 h1 h2 h3 h4 h5
  go_enter Try.func13, Try.ntmps13
  go_wp2
  go_ret
  exact ⟨by rw [HF.out]; rfl, rfl⟩
end Go.Proofs.Ytoabegofgpjdeaa
