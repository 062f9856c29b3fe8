/-
  NameSystem comes to true, whatever it is called with.
-/
import Derived.Test.YtoabegofgpjdeaaSmall
import Derived.Test.YtoabegofgpjdeaaLMath
namespace Go.Proofs.Ytoabegofgpjdeaa
open Go.RowKit Go.Lib
set_option linter.unusedVariables false

set_option maxRecDepth 10000 in
set_option maxHeartbeats 1600000 in
theorem lsystem_walk (l m : List UInt8) (w : World) (hl0 : l.length ≤ 9223372036854775807) (hm0 : m.length ≤ 9223372036854775807) :
    Calls Try.prog 7 #[.string ⟨l.toArray⟩, .string ⟨m.toArray⟩] w (Fine w) := by
  go_enter Try.func7, Try.ntmps7
  go_wp2_with fail
  refine (small_any w).mono ?_
  rintro x w1 ⟨rfl, hg⟩
  have HG1 := Lib.hid hg
  clear hg
  have hsl := str_size l
  have hsm := str_size m
  by_cases h5 : 100 < l.length
  · have hi : (100 : Int) < ((l.length : Nat) : Int) := by omega
    go_wp2
    go_ret
    exact ⟨rfl, HG1.out⟩
  have hi : ¬ (100 : Int) < ((l.length : Nat) : Int) := by omega
  by_cases h6 : 100 < m.length
  · have hj : (100 : Int) < ((m.length : Nat) : Int) := by omega
    go_wp2
    go_ret
    exact ⟨rfl, HG1.out⟩
  have hj : ¬ (100 : Int) < ((m.length : Nat) : Int) := by omega
  cases hs : sysD l with
  | false =>
    have HS := Lib.hid (system_says hs w1)
    clear hs
    go_wp2_with fail
    refine (HS.out).mono ?_
    rintro x w2 ⟨rfl, hg⟩
    have HG2 := Lib.hid (HG1.out.trans hg)
    clear hg
    go_wp2
    go_ret
    exact ⟨rfl, HG2.out⟩
  | true =>
    obtain ⟨h1, h2, h3, h4, h7⟩ := sys_all hs
    have HS := Lib.hid (fun W => system_says hs W)
    have HT := Lib.hid (fun W => take_says (l := l) (a := []) (b := l) (by rw [h1]; exact ⟨rfl, rfl⟩) W (by omega))
    have HR := Lib.hid (fun W => right_says h2 W (by omega))
    have HS4 := Lib.hid (fun W => system_says h4 W)
    have HR3 := Lib.hid (fun W => right_says h7 W (by rw [List.length_drop]; omega))
    have HM := Lib.hid (fun hm : m ≠ [] => sys_more hs hm)
    have hst : ∀ W, (Instr.slice 9 (.string ⟨l.toArray⟩) none (some (.int .i64 4)) none).run Try.prog W = .ok (.string ⟨(l.take 4).toArray⟩) W := slice_to l 4 (by omega)
    have hsf : ∀ W, (Instr.slice 9 (.string ⟨l.toArray⟩) (some (.int .i64 3)) none none).run Try.prog W = .ok (.string ⟨(l.drop 3).toArray⟩) W := slice_from l 3 (by omega)
    generalize l.take 4 = a at HS4 hst
    generalize l.drop 3 = b at HR3 hsf
    rw [h3] at hsl hi
    have H5 := Lib.hid h3
    clear h1 h2 h3 h4 h5 h7 hs
    go_wp2_with fail
    refine (HS.out _).mono ?_
    rintro x w2 ⟨rfl, hg⟩
    have HG2 := Lib.hid (HG1.out.trans hg)
    clear hg
    go_wp2_with fail
    refine (HT.out _).mono ?_
    rintro x w3 ⟨rfl, hg⟩
    have HG3 := Lib.hid (HG2.out.trans hg)
    clear hg
    go_wp2_with fail
    refine (HR.out _).mono ?_
    rintro x w4 ⟨rfl, hg⟩
    have HG4 := Lib.hid (HG3.out.trans hg)
    clear hg
    go_wp2_with fail
    refine (HS4.out _).mono ?_
    rintro x w5 ⟨rfl, hg⟩
    have HG5 := Lib.hid (HG4.out.trans hg)
    clear hg
    by_cases hme : m = []
    · subst hme
      go_wp2_with fail
      refine (HR3.out _).mono ?_
      rintro x w6 ⟨rfl, hg⟩
      have HG6 := Lib.hid (HG5.out.trans hg)
      clear hg
      go_wp2
      go_ret
      exact ⟨rfl, HG6.out⟩
    · have HM1 := Lib.hid (fun W => system_says (HM.out hme) W)
      have hmb : (m == []) = false := beq_eq_false_iff_ne.2 hme
      have hab := str_app l m
      have hsum : ¬ 9223372036854775807 < (⟨l.toArray⟩ : ByteArray).size + (⟨m.toArray⟩ : ByteArray).size := by rw [str_size, str_size, H5.out]; omega
      generalize l ++ m = lm at hab HM1
      go_wp2_with fail
      refine (HM1.out _).mono ?_
      rintro x w6 ⟨rfl, hg⟩
      have HG6 := Lib.hid (HG5.out.trans hg)
      clear hg
      go_wp2_with fail
      refine (HR3.out _).mono ?_
      rintro x w7 ⟨rfl, hg⟩
      have HG7 := Lib.hid (HG6.out.trans hg)
      clear hg
      go_wp2
      go_ret
      exact ⟨rfl, HG7.out⟩
end Go.Proofs.Ytoabegofgpjdeaa
