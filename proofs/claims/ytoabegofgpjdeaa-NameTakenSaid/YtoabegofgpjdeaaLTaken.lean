/-
  NameTaken comes to true, whatever it is called with.
-/
import Derived.Test.YtoabegofgpjdeaaSmall
import Derived.Test.YtoabegofgpjdeaaLMath
namespace Go.Proofs.Ytoabegofgpjdeaa
open Go.RowKit Go.Lib
set_option linter.unusedVariables false

set_option maxRecDepth 10000 in
set_option maxHeartbeats 1600000 in
theorem ltaken_walk (l : List UInt8) (w : World) (hl0 : l.length ≤ 9223372036854775807) :
    Calls Try.prog 4 #[.string ⟨l.toArray⟩] w (Fine w) := by
  go_enter Try.func4, Try.ntmps4
  go_wp2_with fail
  refine (small_any w).mono ?_
  rintro x w1 ⟨rfl, hg⟩
  have HG1 := Lib.hid hg
  clear hg
  have hsl := str_size l
  by_cases h5 : 300 < l.length
  · have hi : (300 : Int) < ((l.length : Nat) : Int) := by omega
    go_wp2
    go_ret
    exact ⟨rfl, HG1.out⟩
  have hi : ¬ (300 : Int) < ((l.length : Nat) : Int) := by omega
  have hle := taken_le l
  have HB := Lib.hid (taken_both l)
  have HTR := Lib.hid (fun h => taken_rest (l := l) h)
  have HRT := Lib.hid (fun h hl => right_take (l := l) h hl)
  have HRA := Lib.hid (fun h => right_taken (l := l) h)
  have HT1 := Lib.hid (fun W => take_any l W (by omega))
  have HAP := Lib.hid (List.take_append_drop (takenD l) l)
  have hla : (l.take (takenD l)).length = takenD l := by rw [List.length_take]; omega
  have hlb : (l.drop (takenD l)).length ≤ 300 := by rw [List.length_drop]; omega
  obtain ⟨a, ha⟩ : ∃ a, l.take (takenD l) = a := ⟨_, rfl⟩
  obtain ⟨b, hb⟩ : ∃ b, l.drop (takenD l) = b := ⟨_, rfl⟩
  rw [ha] at HB HRT HT1 HAP hla
  rw [hb] at HTR HT1 HAP hlb
  have HA := Lib.hid ha
  have HBB := Lib.hid hb
  clear ha hb
  have HT2 := Lib.hid (fun W => take_says (l := a) HB.out W (by omega))
  obtain ⟨e, he⟩ : ∃ e, (97 :: b).take (takenD (97 :: b)) = e := ⟨_, rfl⟩
  obtain ⟨f, hf⟩ : ∃ f, (97 :: b).drop (takenD (97 :: b)) = f := ⟨_, rfl⟩
  have HT3 := Lib.hid (fun W => take_says (l := 97 :: b) ⟨he, hf⟩ W (by rw [List.length_cons]; omega))
  have HEE := Lib.hid (fun h => he.symm.trans (HTR.out h))
  have hsa := str_size a
  have hsb := str_size b
  have h1b : (⟨#[97]⟩ : ByteArray) ++ ⟨b.toArray⟩ = ⟨(97 :: b).toArray⟩ := str_app [97] b
  have hab : (⟨a.toArray⟩ : ByteArray) ++ ⟨b.toArray⟩ = ⟨l.toArray⟩ := by rw [str_app, HAP.out]
  have hsum1 : ¬ 9223372036854775807 < 1 + b.length := by omega
  have hsum2 : ¬ 9223372036854775807 < a.length + b.length := by omega
  clear he hf hle HB HTR
  go_wp2_with fail
  refine (HT1.out _).mono ?_
  rintro x w2 ⟨rfl, hg⟩
  have HG2 := Lib.hid (HG1.out.trans hg)
  clear hg
  go_wp2_with fail
  refine (HT2.out _).mono ?_
  rintro x w3 ⟨rfl, hg⟩
  have HG3 := Lib.hid (HG2.out.trans hg)
  clear hg
  go_wp2_with fail
  refine (HT3.out _).mono ?_
  rintro x w4 ⟨rfl, hg⟩
  have HG4 := Lib.hid (HG3.out.trans hg)
  clear hg
  cases hr : rightD l with
  | true =>
    obtain ⟨hr1, hr2⟩ := HRA.out hr
    have hal : a = l := by rw [← HA.out, hr1]; exact List.take_of_length_le (Nat.le_refl _)
    have hbl : b = [] := by rw [← HBB.out, hr1]; exact List.drop_of_length_le (Nat.le_refl _)
    have hel : e = [97] := HEE.out (by rw [hr1]; exact fun h => hr2 (List.eq_nil_of_length_eq_zero h))
    have HR := Lib.hid (fun W => right_says hr W (by omega))
    have hlne : (l == []) = false := beq_eq_false_iff_ne.2 hr2
    subst hal hbl hel
    clear hr hr1
    go_wp2_with fail
    refine (HR.out _).mono ?_
    rintro x w5 ⟨rfl, hg⟩
    have HG5 := Lib.hid (HG4.out.trans hg)
    clear hg
    by_cases h32 : 32 < a.length
    · have h32i : (32 : Int) < ((a.length : Nat) : Int) := by omega
      go_wp2
      go_ret
      exact ⟨rfl, HG5.out⟩
    · have h32i : ¬ (32 : Int) < ((a.length : Nat) : Int) := by omega
      go_wp2_with fail
      refine (HR.out _).mono ?_
      rintro x w6 ⟨rfl, hg⟩
      have HG6 := Lib.hid (HG5.out.trans hg)
      clear hg
      go_wp2
      go_ret
      exact ⟨rfl, HG6.out⟩
  | false =>
    have HR := Lib.hid (fun W => right_says hr W (by omega))
    clear hr
    by_cases hae : a = []
    · subst hae
      go_wp2_with fail
      refine (HR.out _).mono ?_
      rintro x w5 ⟨rfl, hg⟩
      have HG5 := Lib.hid (HG4.out.trans hg)
      clear hg
      go_wp2
      go_ret
      exact ⟨rfl, HG5.out⟩
    · have hn0 : takenD l ≠ 0 := fun h => hae (List.eq_nil_of_length_eq_zero (by rw [hla, h]))
      have hel : e = [97] := HEE.out hn0
      subst hel
      have haeb : (a == []) = false := beq_eq_false_iff_ne.2 hae
      go_wp2_with fail
      refine (HR.out _).mono ?_
      rintro x w5 ⟨rfl, hg⟩
      have HG5 := Lib.hid (HG4.out.trans hg)
      clear hg
      by_cases h32 : 32 < a.length
      · have h32i : (32 : Int) < ((a.length : Nat) : Int) := by omega
        clear hla
        go_wp2
        go_ret
        exact ⟨rfl, HG5.out⟩
      · have h32i : ¬ (32 : Int) < ((a.length : Nat) : Int) := by omega
        have HRR := Lib.hid (fun W => right_says (HRT.out hn0 (by omega)) W (by omega))
        clear hla
        go_wp2_with fail
        refine (HRR.out _).mono ?_
        rintro x w6 ⟨rfl, hg⟩
        have HG6 := Lib.hid (HG5.out.trans hg)
        clear hg
        go_wp2
        go_ret
        exact ⟨rfl, HG6.out⟩
end Go.Proofs.Ytoabegofgpjdeaa
